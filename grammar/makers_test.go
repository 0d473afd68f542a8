package grammar_test

import (
	"math"
	"math/rand"
	"slices"
	"strings"

	"turnstile/api"
)

// Dialects and messages to ask with: those of the chapter, right ones, and ones that are bent here and there.

// example is the chapter's D.
func example() api.Dialect {
	return api.Dialect{
		Name: "d-1", MTIEnc: api.ASCII, MapEnc: api.BINARY, MAC: 64,
		Fields: []api.FieldSpec{
			{Number: 3, Class: api.ClassN, Enc: api.BCD, Size: 6},
			{Number: 39, Class: api.ClassAN, Enc: api.ASCII, Size: 2},
			{Number: 48, Class: api.ClassS, Enc: api.ASCII, Digits: 3, LenEnc: api.ASCII, Size: 100},
			{Number: 64, Class: api.ClassB, Enc: api.BINARY, Size: 8},
		},
		Rules: []api.Rule{
			{MTI: "0200", Must: []int{3, 64}, May: []int{48}},
			{MTI: "0210", Must: []int{3, 39, 64}},
		},
	}
}

func field(n int, v string) api.Field { return api.Field{Number: n, Value: v} }

func kids(n int, l ...api.Node) api.Field { return api.Field{Number: n, Kids: l} }

func leaf(tag int, v string) api.Node { return api.Node{Tag: tag, Value: v} }

func inner(tag int, l ...api.Node) api.Node { return api.Node{Tag: tag, Kids: l} }

func message(mti string, l ...api.Field) api.Message { return api.Message{MTI: mti, Fields: l} }

func oneOf[T any](r *rand.Rand, l ...T) T { return l[r.Intn(len(l))] }

func textOf(r *rand.Rand, alphabet string, n int) string {
	b := make([]byte, n)
	for i := range b {
		b[i] = alphabet[r.Intn(len(alphabet))]
	}
	return string(b)
}

const (
	someDigits  = "0123456789"
	someLetters = "AZaz bB"
)

// allFields is all numbers of fields.
func allFields() []int {
	var l []int
	for n := 2; n <= 128; n++ {
		if n != 65 {
			l = append(l, n)
		}
	}
	return l
}

// rightSpec is a spec that may be, of a number.
func rightSpec(r *rand.Rand, n int) api.FieldSpec {
	s := api.FieldSpec{Number: n, Class: 1 + r.Intn(9)}
	s.Enc = oneOf(r, table[s.Class].encodings...)
	if r.Intn(2) == 0 || s.Class >= api.ClassT {
		s.Digits, s.LenEnc = 1+r.Intn(4), oneOf(r, api.ASCII, api.BCD, api.EBCDIC, api.BINARY)
	}
	most := [...]int{9999, 9, 99, 999, 9999}[s.Digits]
	s.Size = 2 + r.Intn(min(most-1, 30))
	if r.Intn(20) == 0 {
		s.Size = most
	}
	return s
}

// somePart is some of a list, in its order.
func somePart(r *rand.Rand, l []int, many int) []int {
	var part []int
	for _, n := range l {
		if r.Intn(many) == 0 {
			part = append(part, n)
		}
	}
	return part
}

func rightDialect(r *rand.Rand) api.Dialect {
	d := api.Dialect{Name: textOf(r, "abyz019-", 1+r.Intn(16)), Version: r.Intn(2), MTIEnc: oneOf(r, api.ASCII, api.BCD, api.EBCDIC), MapEnc: oneOf(r, api.ASCII, api.EBCDIC, api.BINARY)}
	for _, n := range somePart(r, allFields(), oneOf(r, 1, 5, 20)) {
		d.Fields = append(d.Fields, rightSpec(r, n))
	}
	if tag := oneOf(r, 0, 64, 128); tag != 0 {
		d.MAC = tag
		d.Fields = slices.DeleteFunc(d.Fields, func(s api.FieldSpec) bool { return s.Number >= tag })
		d.Fields = append(d.Fields, api.FieldSpec{Number: tag, Class: api.ClassB, Enc: api.BINARY, Size: 8})
	}
	for _, mti := range allTypes() {
		if int(mti[0]-'0') == d.Version && r.Intn(3) == 0 {
			d.Rules = append(d.Rules, randomRule(r, d, mti))
		}
	}
	return d
}

// randomRule names some of a dialect's fields.
func randomRule(r *rand.Rand, d api.Dialect, mti string) api.Rule {
	rule := api.Rule{MTI: mti}
	for _, s := range d.Fields {
		switch r.Intn(3) {
		case 0:
			rule.Must = append(rule.Must, s.Number)
		case 1:
			rule.May = append(rule.May, s.Number)
		}
	}
	return rule
}

// edges are numbers at which something may change.
var edges = []int{math.MinInt, -128, -1, 0, 1, 2, 3, 4, 5, 6, 7, 8, 9, 10, 39, 48, 63, 64, 65, 66, 99, 100, 126, 127, 128, 129, 999, 1000, 9999, 10000, 99999, 1 << 32, math.MaxInt}

var oddTypes = []string{"", "x", "0200", "0201", "0210", "0211", "1200", "0420", "0400", "2200", "02000", "020", "0800", "1810"}

// clone is a dialect that shares nothing.
func clone(d api.Dialect) api.Dialect {
	d.Fields = slices.Clone(d.Fields)
	d.Rules = slices.Clone(d.Rules)
	for i, r := range d.Rules {
		d.Rules[i].Must, d.Rules[i].May = slices.Clone(r.Must), slices.Clone(r.May)
	}
	return d
}

// bent is a dialect of which something is another thing, which may or may not be.
func bent(r *rand.Rand, d api.Dialect) api.Dialect {
	d = clone(d)
	switch r.Intn(16) {
	case 0:
		d.Name = oneOf(r, "", "D", "a b", "-", "abcdefghijklmnop", "abcdefghijklmnopq", "ä", "x\x00")
	case 1:
		d.Version = oneOf(r, edges...)
	case 2:
		d.MTIEnc = oneOf(r, edges...)
	case 3:
		d.MapEnc = oneOf(r, edges...)
	case 4:
		d.MAC = oneOf(r, edges...)
	case 5:
		d.Fields = append(d.Fields, rightSpec(r, oneOf(r, edges...)))
	case 6:
		d.Rules = append(d.Rules, randomRule(r, d, oneOf(r, oddTypes...)))
	case 7, 8, 9, 10:
		bendSpec(r, d.Fields)
	default:
		bendRule(r, d.Rules)
	}
	return d
}

func bendSpec(r *rand.Rand, l []api.FieldSpec) {
	if len(l) == 0 {
		return
	}
	s := &l[r.Intn(len(l))]
	if r.Intn(8) == 0 {
		*s, l[0] = l[0], *s
		return
	}
	*oneOf(r, &s.Number, &s.Class, &s.Enc, &s.Digits, &s.LenEnc, &s.Size) = oneOf(r, edges...)
}

func bendRule(r *rand.Rand, l []api.Rule) {
	if len(l) == 0 {
		return
	}
	rule := &l[r.Intn(len(l))]
	switch list := oneOf(r, &rule.Must, &rule.May); r.Intn(5) {
	case 0:
		*rule, l[0] = l[0], *rule
	case 1:
		rule.MTI = oneOf(r, oddTypes...)
	case 2:
		*list = append(*list, oneOf(r, edges...))
	case 3:
		if len(*list) > 0 {
			*list = slices.Insert(*list, r.Intn(len(*list)), oneOf(r, *list...))
		}
	case 4:
		if len(*list) > 0 {
			(*list)[r.Intn(len(*list))] = oneOf(r, edges...)
		}
	}
}

// rightField is a field that may be so, by a spec whose Size leaves room.
func rightField(r *rand.Rand, s api.FieldSpec) api.Field {
	n := s.Size
	if s.Digits != 0 && s.Class < api.ClassT {
		n = max(1+r.Intn(s.Size), min(2, s.Size))
	}
	f := api.Field{Number: s.Number}
	switch s.Class {
	case api.ClassN:
		f.Value = textOf(r, someDigits, n)
	case api.ClassA:
		f.Value = textOf(r, someLetters, n)
	case api.ClassAN:
		f.Value = textOf(r, someLetters+someDigits, n)
	case api.ClassANS:
		f.Value = textOf(r, someLetters+someDigits+"!-~", n)
	case api.ClassB:
		f.Value = textOf(r, someLetters+"\x00\x7F\xFF", n)
	case api.ClassZ:
		f.Value = textOf(r, someDigits+"=", n)
	case api.ClassX:
		f.Value = textOf(r, "CD", 1) + textOf(r, someDigits, n-1)
	case api.ClassT:
		f.Kids = []api.Node{leaf(90, textOf(r, someLetters, r.Intn(min(s.Size-1, 127))))}
		if s.Size-len(f.Kids[0].Value) > 3 {
			f.Kids = append(f.Kids, inner(112))
		}
	case api.ClassS:
		f.Kids = []api.Node{leaf(r.Intn(100), textOf(r, someLetters, min(r.Intn(max(s.Size-3, 1)), 99)))}
	}
	return f
}

// rightMessage has what a rule wants, and some of what it lets.
func rightMessage(r *rand.Rand, d api.Dialect, rule api.Rule) api.Message {
	m := api.Message{MTI: rule.MTI}
	for _, s := range d.Fields {
		if slices.Contains(rule.Must, s.Number) || slices.Contains(rule.May, s.Number) && r.Intn(2) == 0 {
			m.Fields = append(m.Fields, rightField(r, s))
		}
	}
	return m
}

func cloneMessage(m api.Message) api.Message {
	m.Fields = slices.Clone(m.Fields)
	return m
}

// bentMessage is one of which something is another thing.
func bentMessage(r *rand.Rand, d api.Dialect, m api.Message) api.Message {
	m = cloneMessage(m)
	switch r.Intn(10) {
	case 0:
		m.MTI = oneOf(r, append(allTypes(), oddTypes...)...)
	case 1:
		m.Fields = append(m.Fields, field(oneOf(r, edges...), "1"))
	case 2:
		at := r.Intn(len(m.Fields) + 1)
		m.Fields = slices.Insert(m.Fields, at, field(oneOf(r, edges...), "1"))
	case 3:
		if len(d.Fields) > 0 {
			m.Fields = append(m.Fields, rightField(r, rightSpec(r, oneOf(r, d.Fields...).Number)))
			slices.SortStableFunc(m.Fields, func(a, b api.Field) int { return a.Number - b.Number })
		}
	default:
		if len(m.Fields) > 0 {
			bendField(r, m.Fields)
		}
	}
	return m
}

func bendField(r *rand.Rand, l []api.Field) {
	f := &l[r.Intn(len(l))]
	switch r.Intn(8) {
	case 0:
		f.Number = oneOf(r, edges...)
	case 1:
		f.Value += "1"
	case 2:
		f.Value = f.Value[:len(f.Value)/2]
	case 3:
		f.Value = ""
	case 4:
		f.Kids = append(slices.Clone(f.Kids), leaf(oneOf(r, 0, 1, 31, 90, 112), oneOf(r, "", "x", "\x00", strings.Repeat("v", 100))))
	case 5:
		f.Kids = nil
	case 6:
		f.Value = oneOf(r, "C", "D1", "=", "x", " ", "\x00", "\x7F", "C=", "CC")
	case 7:
		*f, l[0] = l[0], *f
	}
}

// withoutField is a message without the field at a place.
func withoutField(m api.Message, at int) api.Message {
	m.Fields = slices.Delete(slices.Clone(m.Fields), at, at+1)
	return m
}
