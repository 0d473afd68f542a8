package scan_test

import (
	"math/rand"
	"strings"
	"testing"

	"turnstile/api"
	"turnstile/message"
)

func TestScannerExamples(t *testing.T) {
	s := compiled(t, example()).table.New()
	if defect := s.Scan(short); defect != (api.Defect{}) {
		t.Errorf("13.4: Scan = %v", defect)
	}
	if s.MTI() != "0200" || !s.Has(11) || !s.Has(3) || s.Has(35) || s.Has(1) {
		t.Errorf("13.5: MTI = %q; Has: %t, %t, %t, %t", s.MTI(), s.Has(11), s.Has(3), s.Has(35), s.Has(1))
	}
	for n, want := range map[int][2]int{3: {20, 6}, 11: {26, 3}, 35: {}, 1: {}} {
		if at, size := s.Span(n); at != want[0] || size != want[1] {
			t.Errorf("13.5: Span(%d) = %d, %d", n, at, size)
		}
	}
	if f, ok := s.Field(11); !ok || !sameField(f, field(11, "000042")) {
		t.Errorf("13.5: Field(11) = %v, %t", f, ok)
	}
	hasNoOther(t, s, s.Message())
	if defect := s.Scan(short[:28]); defect != (api.Defect{Code: api.DefShort, Field: 11, At: 28}) {
		t.Errorf("13.4: Scan = %v", defect)
	}
	has(t, s, told{})
	hasNoOther(t, s, api.Message{})
}

// TestNoMessageAtFirst: a scanner that looked at nothing has nothing.
func TestNoMessageAtFirst(t *testing.T) {
	for _, d := range []api.Dialect{example(), rich(), ofAllFields(api.ASCII)} {
		s := compiled(t, d).table.New()
		has(t, s, told{})
		hasNoOther(t, s, api.Message{})
	}
}

// TestAMessageOfNoFields: it is one all the same.
func TestAMessageOfNoFields(t *testing.T) {
	x := compiled(t, rich())
	b := "\x18\x00\x00\x00\x00\x00\x00\x00\x00\x00"
	tellsOf(t, x, b, told{m: of("1800")})
	hasNoOther(t, x.s, api.Message{})
	patches(t, x, b, "1800", nil, nil)
}

// TestOneMessageBehindTheOther: each Scan leaves nothing of the one ahead, whatever that was.
func TestOneMessageBehindTheOther(t *testing.T) {
	_, parts := full()
	texts := []string{strings.Join(parts, ""), strings.Join(parts, "") + "x", "\x18\x00\x00\x00\x00\x00\x00\x00\x00\x00", "\x18\x00\x40\x00\x00\x00\x00\x00\x00\x00\xF0\xF1\xF1", "", "\x11\x00\x20\x00\x00\x00\x00\x00\x00\x00\x01\x23\x45", strings.Repeat("0", 10000)}
	x := compiled(t, rich())
	for _, first := range texts {
		for _, second := range texts {
			for _, b := range []string{first, second, first} {
				agrees(t, x, b)
				hasNoOther(t, x.s, wantRead(x.d, b).m)
			}
		}
	}
}

// TestAskingChangesNothing: whatever is asked, in whichever order, is told again.
func TestAskingChangesNothing(t *testing.T) {
	r := rand.New(rand.NewSource(1310))
	m, parts := full()
	x := compiled(t, rich())
	x.s.Scan(strings.Join(parts, ""))
	want := wantRead(x.d, strings.Join(parts, ""))
	for range 2000 {
		n := oneOf(r, 2, 3, 28, 43, 48, 55, 64, 66, 102, 128, 1, 65, 4, -1)
		switch r.Intn(7) {
		case 0:
			x.s.MTI()
		case 1:
			x.s.Has(n)
		case 2:
			x.s.Span(n)
		case 3:
			f, _ := x.s.Field(n)
			for i := range f.Kids {
				f.Kids[i] = leaf(7, "scribbled")
			}
		case 4:
			clear(x.s.Message().Fields)
		case 5:
			x.s.Patch(oneOf(r, "1100", "1800", "x"), []api.Field{field(n, "1")}, []int{n, 3})
		case 6:
			x.table.Parse("")
			x.table.New().Scan(oneOf(r, "", "\x18\x00\x00\x00\x00\x00\x00\x00\x00\x00"))
		}
		has(t, x.s, want)
	}
	if !message.Same(x.s.Message(), m) {
		t.Errorf("13.5: Message = %v", x.s.Message())
	}
}

// TestScannersOfOneTable: each has its own message.
func TestScannersOfOneTable(t *testing.T) {
	r := rand.New(rand.NewSource(1311))
	for range 100 {
		d := rightDialect(r)
		if len(d.Rules) == 0 {
			continue
		}
		x := compiled(t, d)
		var all []made
		var texts []string
		for range 6 {
			b, _, _ := x.table.Build(rightMessage(r, d, oneOf(r, d.Rules...)))
			all = append(all, made{d, x.table, x.table.New()})
			texts = append(texts, oneOf(r, b, b, b, bentBytes(r, b)))
		}
		for range 20 {
			i := r.Intn(len(all))
			texts[i] = oneOf(r, texts...)
			all[i].s.Scan(texts[i])
		}
		for i := range all {
			all[i].s.Scan(texts[i])
		}
		for i := range all {
			has(t, all[i].s, wantRead(d, texts[i]))
		}
	}
}
