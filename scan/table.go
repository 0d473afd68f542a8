package scan

import (
	"slices"

	"turnstile/api"
	"turnstile/bitmap"
	"turnstile/digits"
	"turnstile/grammar"
)

const (
	typeDigits = 4   // of a message type
	lastField  = 128 // the greatest number of a field
)

// Table is a dialect, made ready.
type Table struct {
	dialect api.Dialect         // what grammar.Fits and the head of a message want of it
	typed   *text               // of the digits of a type
	rules   map[string]rule     // by the bytes of their types
	rows    [lastField + 1]*row // by numbers; nil: there is no such field
}

// rule is which fields a type must have, and which it names.
type rule struct {
	mti         string
	must, named bitmap.Map
}

// ownDialect is what a table keeps of a dialect, in memory of its own.
func ownDialect(d api.Dialect) api.Dialect {
	own := api.Dialect{MTIEnc: d.MTIEnc, MapEnc: d.MapEnc, Fields: slices.Clone(d.Fields)}
	for _, r := range d.Rules {
		r, _ = grammar.Rule(d, r.MTI) // it tells a copy
		own.Rules = append(own.Rules, r)
	}
	return own
}

// newTable is for a dialect that is right: so nothing that is called here refuses it.
func newTable(d api.Dialect) *Table {
	all := texts{}
	t := &Table{dialect: d, typed: all.of(kind{api.ClassN, d.MTIEnc}), rules: map[string]rule{}}
	for _, s := range d.Fields {
		t.rows[s.Number] = newRow(s, all)
	}
	for _, r := range d.Rules {
		b, _ := digits.Pack(d.MTIEnc, r.MTI)
		must, _ := bitmap.Of(r.Must...)
		named, _ := bitmap.Of(slices.Concat(r.Must, r.May)...)
		t.rules[b] = rule{r.MTI, must, named}
	}
	return t
}

// broken is the least field that must be there and is not, or is there and may not; 0: there is none.
func (r rule) broken(has bitmap.Map) int {
	least := 0
	for _, wrong := range [2]bitmap.Map{r.must.Less(has), has.Less(r.named)} {
		for n := range wrong.Numbers() {
			if least == 0 || n < least {
				least = n
			}
		}
	}
	return least
}
