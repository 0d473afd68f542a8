package scan

import (
	"cmp"
	"slices"
	"strings"

	"turnstile/api"
	"turnstile/bitmap"
	"turnstile/digits"
)

// found is where the fields of a message stand in its bytes.
type found struct {
	bytes string
	mti   string
	parts []part // by rising numbers
}

// part is where a field stands.
type part struct {
	number   int
	from, to int // its bytes, with its length
	content  int // where that begins
	count    int // of its characters
}

// none tells whether there is no message: each one has a type.
func (f found) none() bool { return f.mti == "" }

func (f found) part(n int) (part, bool) {
	i, ok := slices.BinarySearchFunc(f.parts, n, func(p part, n int) int { return cmp.Compare(p.number, n) })
	if !ok {
		return part{}, false
	}
	return f.parts[i], true
}

func wrongAt(code api.Errno, field, at int) api.Defect {
	return api.Defect{Code: code, Field: field, At: at}
}

// find goes through bytes once; with a defect nothing is found.
func (t *Table) find(b string) (found, api.Defect) {
	r, has, at, defect := t.head(b)
	if defect.Code != api.OK {
		return found{}, defect
	}
	f := found{bytes: b, mti: r.mti}
	for n := range has.Numbers() {
		p, defect := t.part(b, n, at)
		if defect.Code != api.OK {
			return found{}, defect
		}
		f.parts = append(f.parts, p)
		at = p.to
	}
	if at < len(b) {
		return found{}, wrongAt(api.DefRest, 0, at)
	}
	if n := r.broken(has); n != 0 {
		if p, ok := f.part(n); ok {
			at = p.from
		}
		return found{}, wrongAt(api.DefRule, n, at)
	}
	return f, api.Defect{}
}

// head is what a message has ahead of its fields: the rule of its type, its bitmap, and where they begin.
func (t *Table) head(b string) (r rule, has bitmap.Map, at int, defect api.Defect) {
	if len(b) > api.MaxSize {
		return r, has, 0, wrongAt(api.DefRest, 0, api.MaxSize)
	}
	width := digits.Width(t.dialect.MTIEnc, typeDigits)
	if len(b) < width {
		return r, has, 0, wrongAt(api.DefShort, 0, len(b))
	}
	r, ok := t.rules[b[:width]]
	if !ok {
		_, at := t.typed.wrong(b[:width], typeDigits) // 0, if all are digits
		return r, has, 0, wrongAt(api.DefMTI, 0, at)
	}
	has, e, at := bitmap.Decode(t.dialect.MapEnc, b[width:])
	switch e {
	case api.OK:
		return r, has, width + at, api.Defect{}
	case api.ErrShort:
		return r, has, 0, wrongAt(api.DefShort, 0, len(b))
	}
	return r, has, 0, wrongAt(api.DefMap, 0, width+at)
}

// part is the field n, which begins at a place of b.
func (t *Table) part(b string, n, at int) (part, api.Defect) {
	r := t.rows[n]
	if r == nil {
		return part{}, wrongAt(api.DefUnknown, n, at)
	}
	count, size, e := r.length(b[at:])
	switch e {
	case api.DefShort:
		return part{}, wrongAt(e, n, len(b))
	case api.DefLength:
		return part{}, wrongAt(e, n, at)
	}
	content := at + size
	to := content + digits.Width(r.spec.Enc, count)
	if to > len(b) {
		return part{}, wrongAt(api.DefShort, n, len(b))
	}
	if e, place := r.wrong(b[content:to], count); e != api.OK {
		return part{}, wrongAt(e, n, content+place)
	}
	return part{number: n, from: at, to: to, content: content, count: count}, api.Defect{}
}

// field reads one that was found.
func (t *Table) field(f found, p part) api.Field {
	read := t.rows[p.number].read(f.bytes[p.content:p.to], p.count)
	read.Number = p.number
	return read
}

// message reads all that was found.
func (t *Table) message(f found) api.Message {
	m := api.Message{MTI: strings.Clone(f.mti)}
	for _, p := range f.parts {
		m.Fields = append(m.Fields, t.field(f, p))
	}
	return m
}
