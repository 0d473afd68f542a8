package scan_test

import (
	"math/rand"
	"slices"
	"strings"
	"testing"

	"turnstile/api"
	"turnstile/message"
)

// What follows (13.7), asked of the package alone.

// comesBack holds that a message that is written is read as it was.
func comesBack(t *testing.T, x made, m api.Message) string {
	t.Helper()
	b, e, n := x.table.Build(m)
	if e != api.OK {
		t.Fatalf("13.7: Build(%.300v) by %.300v = %d, %d", m, x.d, e, n)
	}
	if back, defect := x.table.Parse(b); defect != (api.Defect{}) || !message.Same(back, m) {
		t.Errorf("13.7: Parse of Build(%.300v) by %.300v is %.300v, %v", m, x.d, back, defect)
	}
	return b
}

// standsBack holds that bytes that are read are written as they were, and that a scanner tells the parts; it is whether they are read.
func standsBack(t *testing.T, x made, b string) bool {
	t.Helper()
	m, defect := x.table.Parse(b)
	if scanned := x.s.Scan(b); scanned != defect {
		t.Errorf("13.7: Parse(%.200x) by %.300v tells %v, Scan %v", b, x.d, defect, scanned)
	}
	if defect != (api.Defect{}) {
		return false
	}
	if back, e, n := x.table.Build(m); back != b || e != api.OK || n != 0 {
		t.Errorf("13.7: Build of Parse(%.200x) by %.300v is %.200x, %d, %d", b, x.d, back, e, n)
	}
	patchIs(t, x, m.MTI, nil, nil, b, api.OK, 0)
	if x.s.MTI() != m.MTI || !message.Same(x.s.Message(), m) {
		t.Errorf("13.7: the scanner tells %q, %.300v; Parse %.300v", x.s.MTI(), x.s.Message(), m)
	}
	end := len(b)
	for _, f := range slices.Backward(m.Fields) {
		at, size := x.s.Span(f.Number)
		part, ok := x.s.Field(f.Number)
		if at+size != end || size < 1 || !ok || !sameField(part, f) || !x.s.Has(f.Number) {
			t.Errorf("13.7: of %.200x the field %d: %d, %d; %v, %t", b, f.Number, at, size, part, ok)
		}
		end = at
	}
	return true
}

func TestThereAndBack(t *testing.T) {
	r := rand.New(rand.NewSource(1313))
	read := 0
	for range 2500 {
		d := rightDialect(r)
		x := compiled(t, d)
		for _, rule := range d.Rules {
			b := comesBack(t, x, rightMessage(r, d, rule))
			standsBack(t, x, b)
			if standsBack(t, x, bentBytes(r, b)) {
				read++
			}
		}
	}
	if read < 200 {
		t.Errorf("the test had %d bent texts that are messages only", read)
	}
}

// TestNoTwoForms: of a small field all bytes that there are; no two are one message.
func TestNoTwoForms(t *testing.T) {
	for _, s := range []api.FieldSpec{
		{Number: 2, Class: api.ClassN, Enc: api.BCD, Digits: 1, LenEnc: api.BCD, Size: 3},
		{Number: 2, Class: api.ClassZ, Enc: api.BCDR, Digits: 1, LenEnc: api.BINARY, Size: 3},
		{Number: 70, Class: api.ClassX, Enc: api.EBCDIC, Size: 2},
		{Number: 2, Class: api.ClassT, Enc: api.BINARY, Digits: 2, LenEnc: api.BCD, Size: 9},
	} {
		x, ahead := compiled(t, one(s)), head(s)
		seen := map[string]string{}
		for c := range 1 << 16 {
			two := string([]byte{byte(c >> 8), byte(c)})
			for _, b := range []string{ahead + two, ahead + two[:1], ahead + "\x02" + two, ahead + "\x03" + two} {
				if !standsBack(t, x, b) {
					continue
				}
				lines, _ := message.Print(x.s.Message())
				if other, ok := seen[lines]; ok && other != b {
					t.Errorf("13.7: %x and %x are one message", b, other)
				}
				seen[lines] = b
			}
		}
		if len(seen) < 20 {
			t.Errorf("the test had %d messages only", len(seen))
		}
	}
}

// TestPatchThereAndBack: what is patched and patched back is what it was.
func TestPatchThereAndBack(t *testing.T) {
	r := rand.New(rand.NewSource(1314))
	for range 600 {
		d := lenient(rightDialect(r))
		x := compiled(t, d)
		for _, rule := range d.Rules {
			m := rightMessage(r, d, rule)
			b := comesBack(t, x, m)
			s := oneOf(r, append(d.Fields, api.FieldSpec{})...)
			if s.Number == 0 {
				continue
			}
			x.s.Scan(b)
			own, there := x.s.Field(s.Number)
			other, e, _ := x.s.Patch(rule.MTI, []api.Field{rightField(r, s)}, nil)
			if e != api.OK || x.s.Scan(other).Code != api.OK {
				t.Fatalf("13.6: Patch of the field %d: %d", s.Number, e)
			}
			if there {
				patchIs(t, x, rule.MTI, []api.Field{own}, nil, b, api.OK, 0)
			} else {
				patchIs(t, x, rule.MTI, nil, []int{s.Number}, b, api.OK, 0)
			}
		}
	}
}

// TestDeepAndMany: as many nodes as a field may have, and as deep as they may stand.
func TestDeepAndMany(t *testing.T) {
	s := api.FieldSpec{Number: 55, Class: api.ClassT, Enc: api.BINARY, Digits: 4, LenEnc: api.BINARY, Size: 9999}
	x := compiled(t, one(s))
	deep := []api.Node{leaf(90, "x")}
	for range api.MaxNest - 1 {
		deep = []api.Node{inner(112, deep...)}
	}
	var many []api.Node
	for range api.MaxNodes {
		many = append(many, leaf(40706, "abc"))
	}
	comesBack(t, x, of("0200", kids(55, deep...)))
	comesBack(t, x, of("0200", kids(55, many...)))
	comesBack(t, x, of("0200", kids(55, inner(112), leaf(90, ""))))
	writes(t, x, of("0200", kids(55, inner(112, deep...))), "", api.ErrValue, 55)
	writes(t, x, of("0200", kids(55, append(many, leaf(1, ""))...)), "", api.ErrValue, 55)
	tellsOf(t, x, head(s)+"\x03\xEA"+strings.Repeat("\x5A\x00", 501), wrong(api.DefInner, 55, len(head(s))+2+1000))
	nested := "\x70\x02\x5A\x00"
	for range 7 {
		nested = "\x70" + string([]byte{byte(len(nested))}) + nested
	}
	tellsOf(t, x, head(s)+"\x00"+string([]byte{byte(len(nested))})+nested, wrong(api.DefInner, 55, len(head(s))+2+16))
	s = api.FieldSpec{Number: 48, Class: api.ClassS, Enc: api.ASCII, Digits: 4, LenEnc: api.ASCII, Size: 9999}
	x = compiled(t, one(s))
	comesBack(t, x, of("0200", kids(48, make([]api.Node, 500)...)))
	writes(t, x, of("0200", kids(48, make([]api.Node, 501)...)), "", api.ErrValue, 48)
	tellsOf(t, x, head(s)+"2004"+strings.Repeat("0000", 501), wrong(api.DefInner, 48, len(head(s))+4+2000))
}
