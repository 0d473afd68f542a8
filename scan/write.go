package scan

import (
	"maps"
	"slices"
	"strings"

	"turnstile/api"
	"turnstile/bitmap"
	"turnstile/digits"
)

// messageBytes writes a message that fits the dialect: so nothing that is called here refuses it.
func (t *Table) messageBytes(m api.Message) string {
	var fields strings.Builder
	var has bitmap.Map
	for _, f := range m.Fields {
		has, _ = has.With(f.Number)
		fields.WriteString(t.rows[f.Number].bytes(f))
	}
	mti, _ := digits.Pack(t.dialect.MTIEnc, m.MTI)
	numbers, _ := bitmap.Encode(t.dialect.MapEnc, has)
	return mti + numbers + fields.String()
}

// patched is a message with another type, with other fields, and without some.
func patched(m api.Message, mti string, fields []api.Field, gone []int) api.Message {
	all := map[int]api.Field{}
	for _, f := range m.Fields {
		all[f.Number] = f
	}
	for _, n := range gone {
		delete(all, n)
	}
	for _, f := range fields {
		all[f.Number] = f
	}
	other := api.Message{MTI: mti}
	for _, n := range slices.Sorted(maps.Keys(all)) {
		other.Fields = append(other.Fields, all[n])
	}
	return other
}
