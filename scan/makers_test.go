package scan_test

import (
	"math"
	"math/rand"
	"slices"
	"strings"

	"turnstile/api"
	"turnstile/bitmap"
	"turnstile/digits"
)

// Dialects, messages and bytes to ask with: those of the chapter, right ones, and ones that are bent here and there.

// example is the dialect of the chapter's examples.
func example() api.Dialect {
	return api.Dialect{
		Name: "d-1", MTIEnc: api.ASCII, MapEnc: api.ASCII,
		Fields: []api.FieldSpec{
			{Number: 3, Class: api.ClassN, Enc: api.ASCII, Size: 6},
			{Number: 11, Class: api.ClassN, Enc: api.BCD, Size: 6},
			{Number: 35, Class: api.ClassZ, Enc: api.BCDR, Digits: 2, LenEnc: api.BCD, Size: 37},
		},
		Rules: []api.Rule{{MTI: "0200", Must: []int{3, 11}, May: []int{35}}},
	}
}

// Its bytes, without and with a track.
const (
	short = "0200" + "2020000000000000" + "000000" + "\x00\x00\x42"
	track = "0200" + "2020000020000000" + "000000" + "\x00\x00\x42" + "\x07\x41\x11\xD3\x0F"
)

// rich has a field of each class, and numbers on both sides of 64.
func rich() api.Dialect {
	return api.Dialect{
		Name: "rich", Version: 1, MTIEnc: api.BCD, MapEnc: api.BINARY, MAC: 128,
		Fields: []api.FieldSpec{
			{Number: 2, Class: api.ClassN, Enc: api.EBCDIC, Digits: 2, LenEnc: api.EBCDIC, Size: 19},
			{Number: 3, Class: api.ClassN, Enc: api.BCD, Size: 5},
			{Number: 28, Class: api.ClassX, Enc: api.ASCII, Digits: 1, LenEnc: api.BINARY, Size: 9},
			{Number: 43, Class: api.ClassANS, Enc: api.EBCDIC, Size: 3},
			{Number: 48, Class: api.ClassS, Enc: api.ASCII, Digits: 3, LenEnc: api.BCD, Size: 99},
			{Number: 55, Class: api.ClassT, Enc: api.BINARY, Digits: 3, LenEnc: api.BINARY, Size: 255},
			{Number: 64, Class: api.ClassA, Enc: api.ASCII, Size: 2},
			{Number: 66, Class: api.ClassAN, Enc: api.EBCDIC, Digits: 4, LenEnc: api.ASCII, Size: 1234},
			{Number: 102, Class: api.ClassZ, Enc: api.BCDR, Size: 3},
			{Number: 128, Class: api.ClassB, Enc: api.BINARY, Size: 8},
		},
		Rules: []api.Rule{
			{MTI: "1100", Must: []int{3, 128}, May: []int{2, 28, 43, 48, 55, 64, 66, 102}},
			{MTI: "1800", May: []int{2, 128}},
		},
	}
}

// full is a message of it with all its fields, and its bytes, part by part.
func full() (api.Message, []string) {
	m := of("1100", field(2, "41"), field(3, "12345"), field(28, "D07"), field(43, "a~["), kids(48, leaf(1, "x"), leaf(99, "")),
		kids(55, leaf(90, "\x01"), inner(112, leaf(40706, "\x00\xFF"))), field(64, "z "), field(66, "A1 b"), field(102, "1=2"), field(128, "\x00\x01\x02\x03\xFC\xFD\xFE\xFF"))
	return m, []string{
		"\x11\x00", "\xE0\x00\x00\x10\x00\x21\x02\x01\x40\x00\x00\x00\x04\x00\x00\x01",
		"\xF0\xF2\xF4\xF1", "\x01\x23\x45", "\x03D07", "\x81\xA1\xBA", "\x00\x090101x9900",
		"\x00\x0A\x5A\x01\x01\x70\x05\x9F\x02\x02\x00\xFF", "z ", "0004\xC1\xF1\x40\x82", "\x1D\x2F", "\x00\x01\x02\x03\xFC\xFD\xFE\xFF",
	}
}

// ofAllFields is a dialect with all fields that there are, a byte each.
func ofAllFields(enc int) api.Dialect {
	d := api.Dialect{Name: "all", MTIEnc: api.ASCII, MapEnc: enc, Rules: []api.Rule{{MTI: "0200"}}}
	for n := 2; n <= 128; n++ {
		if n != 65 {
			d.Fields = append(d.Fields, api.FieldSpec{Number: n, Class: api.ClassB, Enc: api.BINARY, Size: 1})
			d.Rules[0].May = append(d.Rules[0].May, n)
		}
	}
	return d
}

// one is a dialect of one field, which may be there.
func one(s api.FieldSpec) api.Dialect {
	return api.Dialect{Name: "one", MTIEnc: api.ASCII, MapEnc: api.BINARY, Fields: []api.FieldSpec{s}, Rules: []api.Rule{{MTI: "0200", May: []int{s.Number}}}}
}

// head is what stands ahead of the field of such a dialect.
func head(s api.FieldSpec) string {
	return "0200" + mapBytes(api.BINARY, s.Number)
}

func mapBytes(enc int, numbers ...int) string {
	m, _ := bitmap.Of(numbers...)
	b, _ := bitmap.Encode(enc, m)
	return b
}

func packed(enc int, s string) string {
	b, _ := digits.Pack(enc, s)
	return b
}

// prefix is a length; nothing, if it has no digits.
func prefix(s api.FieldSpec, n int) string {
	b, _ := digits.Prefix(s.LenEnc, s.Digits, n)
	return b
}

func field(n int, v string) api.Field { return api.Field{Number: n, Value: v} }

func kids(n int, l ...api.Node) api.Field { return api.Field{Number: n, Kids: l} }

func leaf(tag int, v string) api.Node { return api.Node{Tag: tag, Value: v} }

func inner(tag int, l ...api.Node) api.Node { return api.Node{Tag: tag, Kids: l} }

func of(mti string, l ...api.Field) api.Message { return api.Message{MTI: mti, Fields: l} }

func oneOf[T any](r *rand.Rand, l ...T) T { return l[r.Intn(len(l))] }

// encodings are those in which each class may stand.
var encodings = map[int][]int{
	api.ClassN: {api.ASCII, api.BCD, api.EBCDIC}, api.ClassA: {api.ASCII, api.EBCDIC}, api.ClassAN: {api.ASCII, api.EBCDIC},
	api.ClassANS: {api.ASCII, api.EBCDIC}, api.ClassB: {api.BINARY}, api.ClassZ: {api.ASCII, api.BCDR, api.EBCDIC},
	api.ClassX: {api.ASCII, api.EBCDIC}, api.ClassT: {api.BINARY}, api.ClassS: {api.ASCII},
}

var lengthEncodings = []int{api.ASCII, api.BCD, api.EBCDIC, api.BINARY}

var types = []string{"100", "101", "110", "120", "121", "130", "200", "201", "210", "220", "221", "230", "420", "421", "430", "500", "501", "510", "800", "801", "810"}

// edges are numbers at which something may change.
var edges = []int{math.MinInt, -1, 0, 1, 2, 3, 4, 5, 6, 7, 8, 9, 10, 63, 64, 65, 66, 99, 100, 127, 128, 129, 999, 1000, 9999, 10000, 1 << 32, math.MaxInt}

// allSpecs is of each class and encoding one with each kind of length, and one with none.
func allSpecs(number, size int) []api.FieldSpec {
	var l []api.FieldSpec
	for class := api.ClassN; class <= api.ClassS; class++ {
		for _, enc := range encodings[class] {
			if class < api.ClassT {
				l = append(l, api.FieldSpec{Number: number, Class: class, Enc: enc, Size: size})
			}
			for _, kind := range lengthEncodings {
				for n := 1; n <= 4; n++ {
					s := api.FieldSpec{Number: number, Class: class, Enc: enc, Digits: n, LenEnc: kind, Size: size}
					if prefix(s, size) != "" {
						l = append(l, s)
					}
				}
			}
		}
	}
	return l
}

// rightSpec is a spec that may be, of a number, and of which there are fields.
func rightSpec(r *rand.Rand, n int) api.FieldSpec {
	s := api.FieldSpec{Number: n, Class: 1 + r.Intn(9)}
	s.Enc = oneOf(r, encodings[s.Class]...)
	least := map[int]int{api.ClassX: 2, api.ClassT: 2, api.ClassS: 4}[s.Class]
	s.Size = max(least, 1, oneOf(r, 1, 2, 3, 1+r.Intn(9), 1+r.Intn(40)))
	if r.Intn(2) == 0 || s.Class >= api.ClassT {
		s.LenEnc = oneOf(r, lengthEncodings...)
		s.Digits = oneOf(r, 2, 3, 4)
		if s.Size < 10 {
			s.Digits = oneOf(r, 1, 2, 3, 4)
		}
	}
	return s
}

func rightDialect(r *rand.Rand) api.Dialect {
	d := api.Dialect{Name: "any", Version: r.Intn(2), MTIEnc: oneOf(r, api.ASCII, api.BCD, api.EBCDIC), MapEnc: oneOf(r, api.ASCII, api.EBCDIC, api.BINARY)}
	most := oneOf(r, 64, 128)
	d.MAC = oneOf(r, 0, 0, most)
	every := oneOf(r, 2, 10, 30)
	for n := 2; n <= most; n++ {
		switch {
		case n == d.MAC:
			d.Fields = append(d.Fields, api.FieldSpec{Number: n, Class: api.ClassB, Enc: api.BINARY, Size: 8})
		case n != 65 && r.Intn(every) == 0:
			d.Fields = append(d.Fields, rightSpec(r, n))
		}
	}
	for _, mti := range types {
		if r.Intn(4) == 0 {
			d.Rules = append(d.Rules, randomRule(r, d, mti))
		}
	}
	return d
}

// randomRule names most of a dialect's fields.
func randomRule(r *rand.Rand, d api.Dialect, mti string) api.Rule {
	rule := api.Rule{MTI: string(rune('0'+d.Version)) + mti}
	for _, s := range d.Fields {
		switch r.Intn(5) {
		case 0, 1:
			rule.Must = append(rule.Must, s.Number)
		case 2, 3:
			rule.May = append(rule.May, s.Number)
		}
	}
	return rule
}

// lenient is a dialect with rules that let all fields be.
func lenient(d api.Dialect) api.Dialect {
	d.Rules = slices.Clone(d.Rules)
	for i := range d.Rules {
		d.Rules[i].Must, d.Rules[i].May = nil, nil
		for _, s := range d.Fields {
			d.Rules[i].May = append(d.Rules[i].May, s.Number)
		}
	}
	return d
}

// bentDialect is one of which something is another thing, which may or may not be.
func bentDialect(r *rand.Rand, d api.Dialect) api.Dialect {
	d.Fields, d.Rules = slices.Clone(d.Fields), slices.Clone(d.Rules)
	switch r.Intn(8) {
	case 0:
		d.Name = oneOf(r, "", "D", "abcdefghijklmnopq")
	case 1:
		*oneOf(r, &d.Version, &d.MTIEnc, &d.MapEnc, &d.MAC) = oneOf(r, edges...)
	case 2:
		d.Fields = append(d.Fields, rightSpec(r, oneOf(r, edges...)))
	case 3:
		d.Rules = append(d.Rules, api.Rule{MTI: oneOf(r, "", "0200", "1200", "0211", "2200"), May: []int{oneOf(r, edges...)}})
	case 4:
		if len(d.Rules) > 0 {
			rule := &d.Rules[r.Intn(len(d.Rules))]
			rule.Must = append(slices.Clone(rule.Must), oneOf(r, edges...))
		}
	default:
		if len(d.Fields) > 0 {
			s := &d.Fields[r.Intn(len(d.Fields))]
			*oneOf(r, &s.Number, &s.Class, &s.Enc, &s.Digits, &s.LenEnc, &s.Size) = oneOf(r, edges...)
		}
	}
	return d
}

// alphabet is what may stand at a place of a class that has characters.
func alphabet(class, place int) string {
	const digits, letters = "0123456789", "ABCDEFGHIJKLMNOPQRSTUVWXYZabcdefghijklmnopqrstuvwxyz"
	const signs = " !\"#$%&'()*+,-./:;<=>?@[\\]^_`{|}~"
	if class == api.ClassX && place == 0 {
		return "CD"
	}
	return map[int]string{1: digits, 2: letters + " ", 3: letters + digits + " ", 4: letters + digits + signs, 6: digits + "=", 7: digits}[class]
}

func textOf(r *rand.Rand, class, n int) string {
	b := make([]byte, n)
	for i := range b {
		if b[i] = byte(r.Intn(256)); class != api.ClassB {
			all := alphabet(class, i)
			b[i] = all[r.Intn(len(all))]
		}
	}
	return string(b)
}

// rightField is a field that may be so.
func rightField(r *rand.Rand, s api.FieldSpec) api.Field {
	n := s.Size
	if s.Digits != 0 {
		n = min(s.Size, max(1+r.Intn(s.Size), map[int]int{api.ClassX: 2, api.ClassT: 2, api.ClassS: 4}[s.Class]))
	}
	switch s.Class {
	case api.ClassT:
		return kids(s.Number, someNodes(r, n, 1)...)
	case api.ClassS:
		return kids(s.Number, someSubs(r, n)...)
	}
	return field(s.Number, textOf(r, s.Class, n))
}

// someNodes have at most so many bytes, and at least two.
func someNodes(r *rand.Rand, most, deep int) []api.Node {
	n := leaf(oneOf(r, 1, 90, 130), textOf(r, api.ClassB, r.Intn(min(most-1, 100))))
	switch {
	case most >= 10 && deep < api.MaxNest && r.Intn(3) == 0:
		return []api.Node{leaf(40706, ""), inner(oneOf(r, 112, 225), someNodes(r, most-7, deep+1)...), inner(112)}
	case most >= 4 && deep < api.MaxNest && r.Intn(3) == 0:
		return []api.Node{inner(112, someNodes(r, most-2, deep+1)...)}
	case most >= 4 && r.Intn(2) == 0:
		return append(someNodes(r, most-2, deep), leaf(1, ""))
	case r.Intn(3) == 0:
		return []api.Node{inner(112)}
	}
	return []api.Node{n}
}

// someSubs have at most so many bytes, and at least four.
func someSubs(r *rand.Rand, most int) []api.Node {
	var l []api.Node
	for most >= 4 {
		v := textOf(r, api.ClassANS, r.Intn(min(most-3, 100)))
		most -= 4 + len(v)
		l = append(l, leaf(r.Intn(100), v))
	}
	return l
}

// rightMessage has what a rule wants, and some of what it lets.
func rightMessage(r *rand.Rand, d api.Dialect, rule api.Rule) api.Message {
	m := api.Message{MTI: rule.MTI}
	every := 1 + r.Intn(4)
	for _, s := range d.Fields {
		if slices.Contains(rule.Must, s.Number) || slices.Contains(rule.May, s.Number) && r.Intn(every) == 0 {
			m.Fields = append(m.Fields, rightField(r, s))
		}
	}
	return m
}

// bentMessage is one of which something is another thing.
func bentMessage(r *rand.Rand, m api.Message) api.Message {
	m.Fields = slices.Clone(m.Fields)
	if len(m.Fields) == 0 || r.Intn(6) == 0 {
		m.MTI = oneOf(r, "", "0200", "1200", "0211", "02000", m.MTI)
		m.Fields = append(m.Fields, field(oneOf(r, edges...), "1"))
		return m
	}
	at := r.Intn(len(m.Fields))
	f := &m.Fields[at]
	switch r.Intn(8) {
	case 0:
		f.Number = oneOf(r, edges...)
	case 1:
		f.Value += oneOf(r, "1", "A", "=", "\x00")
	case 2:
		f.Value = f.Value[:len(f.Value)/2]
	case 3:
		f.Kids = append(slices.Clone(f.Kids), leaf(oneOf(r, 0, 1, 31, 90, 112), oneOf(r, "", "x", "\x00", strings.Repeat("v", 100))))
	case 4:
		f.Kids = nil
	case 5:
		f.Value = oneOf(r, "C", "D1", "=", "x", " ", "\x00", "\x7F", "C=", "CC", "1", "123")
	case 6:
		*f, m.Fields[0] = m.Fields[0], *f
	case 7:
		m.Fields = slices.Delete(m.Fields, at, at+1)
	}
	return m
}

// bentBytes is bytes of which something is another thing: mostly at one place.
func bentBytes(r *rand.Rand, b string) string {
	at := r.Intn(len(b) + 1)
	if at == len(b) || r.Intn(6) == 0 {
		return oneOf(r, b[:at], b[:at], b+"0", b+string(rune(r.Intn(128))), b+b)
	}
	is := b[at]
	other := oneOf(r, is+1, is-1, is^0x10, is^0xF0, is^0x0F, is^(1<<r.Intn(8)), byte(r.Intn(256)), '0', '9', '=', ' ', 0, 0xFF, 0x0D)
	switch r.Intn(10) {
	case 0:
		return b[:at] + b[at+1:]
	case 1:
		return b[:at] + string([]byte{other}) + b[at:]
	}
	return b[:at] + string([]byte{other}) + b[at+1:]
}
