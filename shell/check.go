package shell

import (
	"slices"

	"turnstile/api"
	"turnstile/core"
	"turnstile/digits"
	"turnstile/journal"
)

// check tells the journal, and whether it agrees with itself.
func (p *player) check() {
	b := p.journal.Bytes()
	p.line("journal", wordsOf(p.journal.Len()), eight(journal.Sum(b)), p.verdict(b))
}

// verdict is what the journal's bytes say, played again.
func (p *player) verdict(b string) string {
	switch {
	case p.lost:
		return "lost"
	case agrees(p.setting, otherThan(p.stack), b):
		return "same"
	}
	return "other"
}

// otherThan is the other one of the two stacks.
func otherThan(stack int) int {
	if stack == core.Tree {
		return core.Scan
	}
	return core.Tree
}

// agrees tells whether of a journal's events, played by a new switch, comes what stands there.
func agrees(c api.Config, stack int, b string) bool {
	j, _, err := journal.Open(b)
	s, _, _ := core.New(c, stack)
	for _, entry := range j.All() {
		outputs, e := s.Step(entry.Event)
		if e != api.OK || !slices.Equal(outputs, entry.Outputs) {
			return false
		}
	}
	return err == nil
}

// eight is a number in eight sixteenths.
func eight(n uint32) string {
	return digits.Hex(string([]byte{byte(n >> 24), byte(n >> 16), byte(n >> 8), byte(n)}))
}
