package core

import (
	"turnstile/api"
	"turnstile/scan"
	"turnstile/tree"
)

// stack reads and writes the messages of a dialect.
type stack interface {
	Parse(b string) (api.Message, api.Defect)
	Build(m api.Message) (string, api.Errno, int)
}

// walker does that field by field. (A scan.Table does it by tables.)
type walker struct{ dialect api.Dialect }

func (w walker) Parse(b string) (api.Message, api.Defect) { return tree.Parse(w.dialect, b) }

func (w walker) Build(m api.Message) (string, api.Errno, int) { return tree.Build(w.dialect, m) }

// newStack is of a dialect that is right, and that is not written into later.
func newStack(d api.Dialect, kind int) stack {
	if kind == Tree {
		return walker{d}
	}
	table, _, _ := scan.Compile(d)
	return table
}
