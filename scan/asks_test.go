package scan_test

import (
	"slices"
	"testing"

	"turnstile/api"
	"turnstile/message"
	"turnstile/scan"
	"turnstile/tree"
)

// What is told is held against texts written out by hand, and against layer 12, which says of the same section the same in another way.

// made is a dialect that is right, its table, and a scanner that goes from one text to the next.
type made struct {
	d     api.Dialect
	table *scan.Table
	s     *scan.Scanner
}

func compiled(t *testing.T, d api.Dialect) made {
	t.Helper()
	x, e, n := scan.Compile(d)
	if x == nil || e != api.OK || n != 0 {
		t.Fatalf("13.1: Compile(%.300v) = %v, %d, %d", d, x != nil, e, n)
	}
	return made{d, x, x.New()}
}

// told is what is to be told of bytes.
type told struct {
	m      api.Message
	spans  [][2]int
	defect api.Defect
}

func wrong(code api.Errno, field, at int) told {
	return told{defect: api.Defect{Code: code, Field: field, At: at}}
}

func wantRead(d api.Dialect, b string) told {
	m, defect := tree.Parse(d, b)
	spans, _ := tree.Spans(d, b)
	return told{m, spans, defect}
}

func sameField(a, b api.Field) bool { return message.Same(of("", a), of("", b)) }

// tellsOf holds Parse and Scan against what must be told of bytes, and then what the scanner has.
func tellsOf(t *testing.T, x made, b string, want told) {
	t.Helper()
	m, defect := x.table.Parse(b)
	if defect != want.defect || !message.Same(m, want.m) {
		t.Errorf("13.3: Parse(%.200x) by %.300v = %.200v, %v; must be %.200v, %v", b, x.d, m, defect, want.m, want.defect)
	}
	if defect := x.s.Scan(b); defect != want.defect {
		t.Errorf("13.4: Scan(%.200x) by %.300v = %v; must be %v", b, x.d, defect, want.defect)
	}
	has(t, x.s, want)
}

// has holds that a scanner has a message, or none, if that is nothing.
func has(t *testing.T, s *scan.Scanner, want told) {
	t.Helper()
	if m := s.Message(); s.MTI() != want.m.MTI || !message.Same(m, want.m) {
		t.Errorf("13.5: MTI = %q, Message = %.200v; must be %.200v", s.MTI(), m, want.m)
	}
	if _, e, n := s.Patch("", nil, nil); n != 0 || (e == api.ErrState) != (want.m.MTI == "") {
		t.Errorf("13.6: Patch = %d, %d of %.200v", e, n, want.m)
	}
	for i, f := range want.m.Fields {
		at, size := s.Span(f.Number)
		got, ok := s.Field(f.Number)
		if !s.Has(f.Number) || [2]int{at, size} != want.spans[i] || !ok || !sameField(got, f) {
			t.Errorf("13.5: of the field %d: %t; %d, %d; %v, %t; must be %v, %v", f.Number, s.Has(f.Number), at, size, got, ok, want.spans[i], f)
		}
	}
}

// hasNoOther holds that a scanner has no fields but those of a message, whatever is asked for.
func hasNoOther(t *testing.T, s *scan.Scanner, m api.Message) {
	t.Helper()
	ask := slices.Clone(edges)
	for n := -3; n < 300; n++ {
		ask = append(ask, n)
	}
	for _, n := range ask {
		if slices.ContainsFunc(m.Fields, func(f api.Field) bool { return f.Number == n }) {
			continue
		}
		at, size := s.Span(n)
		f, ok := s.Field(n)
		if s.Has(n) || at != 0 || size != 0 || ok || f.Number != 0 || f.Value != "" || f.Kids != nil {
			t.Errorf("13.5: of the field %d, which %.200v has not: %t; %d, %d; %v, %t", n, m, s.Has(n), at, size, f, ok)
		}
	}
}

// agrees holds all of it against layer 12, and is the defect.
func agrees(t *testing.T, x made, b string) api.Errno {
	t.Helper()
	want := wantRead(x.d, b)
	tellsOf(t, x, b, want)
	return want.defect.Code
}

// codes counts what was told; a test that sees too few of some is none.
type codes map[api.Errno]int

func (c codes) enough(t *testing.T, least int, all ...api.Errno) {
	t.Helper()
	for _, e := range all {
		if c[e] < least {
			t.Errorf("the test had too few of %d: %v", e, c)
		}
	}
}
