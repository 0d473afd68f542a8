package tree

import (
	"strings"

	"turnstile/api"
	"turnstile/bitmap"
	"turnstile/digits"
	"turnstile/grammar"
)

// messageBytes writes a message that fits a right dialect: so nothing that is called here refuses it.
func messageBytes(d api.Dialect, m api.Message) string {
	var fields strings.Builder
	var has bitmap.Map
	for _, f := range m.Fields {
		s, _ := grammar.Spec(d, f.Number)
		has, _ = has.With(f.Number)
		fields.WriteString(fieldBytes(s, f))
	}
	mti, _ := digits.Pack(d.MTIEnc, m.MTI)
	numbers, _ := bitmap.Encode(d.MapEnc, has)
	return mti + numbers + fields.String()
}

// fieldBytes need not ask whether there is a length: Prefix refuses one of no digits, and writes nothing.
func fieldBytes(s api.FieldSpec, f api.Field) string {
	content, count := classOf(s).write(f)
	length, _ := digits.Prefix(s.LenEnc, s.Digits, count)
	return length + content
}
