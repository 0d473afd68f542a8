package tree

import (
	"slices"

	"turnstile/api"
	"turnstile/bitmap"
	"turnstile/digits"
	"turnstile/grammar"
)

const typeDigits = 4 // of a message type

// message reads all bytes; spans: where its fields stand.
func (r *reader) message(d api.Dialect) (m api.Message, spans [][2]int) {
	r.must(len(r.bytes) <= api.MaxSize, api.DefRest, api.MaxSize)
	m.MTI = r.mti(d)
	for n := range r.numbers(d.MapEnc).Numbers() {
		from := r.at
		m.Fields = append(m.Fields, r.content(d, n))
		spans = append(spans, [2]int{from, r.at - from})
	}
	r.field = 0
	r.must(r.at == len(r.bytes), api.DefRest, r.at)
	r.ruled(d, m, spans)
	return m, spans
}

func (r *reader) mti(d api.Dialect) string {
	r.want(digits.Width(d.MTIEnc, typeDigits))
	number := text{api.ClassN, d.MTIEnc}
	s := r.characters(number.enc, typeDigits, number.has, api.DefMTI)
	_, ok := grammar.Rule(d, s)
	r.must(ok, api.DefMTI, 0)
	return s
}

func (r *reader) numbers(enc int) bitmap.Map {
	m, e, size := bitmap.Decode(enc, r.bytes[r.at:])
	r.must(e != api.ErrShort, api.DefShort, len(r.bytes))
	r.must(e == api.OK, api.DefMap, r.at+size)
	r.at += size
	return m
}

// content reads a field, with its length.
func (r *reader) content(d api.Dialect, number int) api.Field {
	r.field = number
	s, ok := grammar.Spec(d, number)
	r.must(ok, api.DefUnknown, r.at)
	count := r.length(s)
	r.want(digits.Width(s.Enc, count))
	f := classOf(s).read(r, count)
	f.Number = number
	return f
}

// length is how many characters a field has.
func (r *reader) length(s api.FieldSpec) int {
	if s.Digits == 0 {
		return s.Size
	}
	n, e, size := digits.Length(s.LenEnc, s.Digits, r.bytes[r.at:])
	r.must(e != api.ErrShort, api.DefShort, len(r.bytes))
	r.must(e == api.OK && leastCount(s.Class) <= n && n <= s.Size, api.DefLength, r.at)
	r.at += size
	return n
}

func leastCount(class int) int {
	if class == api.ClassX {
		return 2
	}
	return 1
}

// ruled looks for what the type's rule does not let be: nothing else can keep a message that was read from fitting.
func (r *reader) ruled(d api.Dialect, m api.Message, spans [][2]int) {
	e, n := grammar.Fits(d, m)
	r.field = n
	at := len(r.bytes)
	if i := slices.IndexFunc(m.Fields, func(f api.Field) bool { return f.Number == n }); i >= 0 {
		at = spans[i][0]
	}
	r.must(e == api.OK, api.DefRule, at)
}
