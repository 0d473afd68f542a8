package tree_test

import (
	"math/rand"
	"strings"
	"testing"

	"turnstile/api"
	"turnstile/message"
	"turnstile/tree"
)

// What follows (12.4), asked of the package alone.

// comesBack holds that a message that is written is read as it was.
func comesBack(t *testing.T, d api.Dialect, m api.Message) string {
	t.Helper()
	b, e, n := tree.Build(d, m)
	if e != api.OK {
		t.Fatalf("12.4: Build(%.300v, %.300v) = %d, %d", d, m, e, n)
	}
	if back, x := tree.Parse(d, b); x != (api.Defect{}) || !message.Same(back, m) {
		t.Errorf("12.4: Parse of Build(%.300v, %.300v) is %.300v, %v", d, m, back, x)
	}
	return b
}

// standsBack holds that bytes that are read are written as they were, and that the spans stand one behind the other up to the end; it is whether they are read.
func standsBack(t *testing.T, d api.Dialect, b string) bool {
	t.Helper()
	m, x := tree.Parse(d, b)
	l, y := tree.Spans(d, b)
	if x != y {
		t.Errorf("12.3: Parse(%.300v, %.200x) tells %v, Spans %v", d, b, x, y)
	}
	if x != (api.Defect{}) {
		return false
	}
	if back, e, n := tree.Build(d, m); back != b || e != api.OK || n != 0 {
		t.Errorf("12.4: Build of Parse(%.300v, %.200x) is %.200x, %d, %d", d, b, back, e, n)
	}
	if len(l) != len(m.Fields) {
		t.Fatalf("12.3: %d spans of %d fields", len(l), len(m.Fields))
	}
	for i, span := range l {
		end := len(b)
		if i+1 < len(l) {
			end = l[i+1][0]
		}
		if span[0]+span[1] != end || span[1] < 1 {
			t.Errorf("12.4: the spans of %.200x are %v", b, l)
		}
	}
	return true
}

func TestThereAndBack(t *testing.T) {
	r := rand.New(rand.NewSource(1208))
	read := 0
	for range 5000 {
		d := rightDialect(r)
		for _, rule := range d.Rules {
			b := comesBack(t, d, rightMessage(r, d, rule))
			standsBack(t, d, b)
			if standsBack(t, d, bentBytes(r, b)) {
				read++
			}
		}
	}
	if read < 200 {
		t.Errorf("the test had %d bent texts that are messages only", read)
	}
}

// TestNoTwoForms: of a small field all bytes that there are; no two are one message.
func TestNoTwoForms(t *testing.T) {
	for _, s := range []api.FieldSpec{
		{Number: 2, Class: api.ClassN, Enc: api.BCD, Digits: 1, LenEnc: api.BCD, Size: 3},
		{Number: 2, Class: api.ClassZ, Enc: api.BCDR, Digits: 1, LenEnc: api.BINARY, Size: 3},
		{Number: 70, Class: api.ClassX, Enc: api.EBCDIC, Size: 2},
		{Number: 2, Class: api.ClassT, Enc: api.BINARY, Digits: 2, LenEnc: api.BCD, Size: 9},
	} {
		d, ahead := one(s), head(s)
		seen := map[string]string{}
		for c := range 1 << 16 {
			two := string([]byte{byte(c >> 8), byte(c)})
			for _, b := range []string{ahead + two, ahead + two[:1], ahead + "\x02" + two, ahead + "\x03" + two} {
				if !standsBack(t, d, b) {
					continue
				}
				m, _ := tree.Parse(d, b)
				lines, _ := message.Print(m)
				if other, ok := seen[lines]; ok && other != b {
					t.Errorf("12.4: %x and %x are one message", b, other)
				}
				seen[lines] = b
			}
		}
		if len(seen) < 20 {
			t.Errorf("the test had %d messages only", len(seen))
		}
	}
}

// TestSameMessageInAllEncodings: how a message is written changes its bytes, and not what is read.
func TestSameMessageInAllEncodings(t *testing.T) {
	r := rand.New(rand.NewSource(1209))
	for range 1500 {
		d := rightDialect(r)
		other := d
		other.Fields = append([]api.FieldSpec(nil), d.Fields...)
		other.MTIEnc, other.MapEnc = oneOf(r, api.ASCII, api.BCD, api.EBCDIC), oneOf(r, api.ASCII, api.EBCDIC, api.BINARY)
		for i, s := range other.Fields {
			other.Fields[i].Enc = oneOf(r, encodings[s.Class]...)
			if s.Digits != 0 {
				other.Fields[i].LenEnc = oneOf(r, lengthEncodings...)
			}
		}
		for _, rule := range d.Rules {
			m := rightMessage(r, d, rule)
			comesBack(t, d, m)
			comesBack(t, other, m)
		}
	}
}

// TestDeepAndMany: as many nodes as a field may have, and as deep as they may stand.
func TestDeepAndMany(t *testing.T) {
	s := api.FieldSpec{Number: 55, Class: api.ClassT, Enc: api.BINARY, Digits: 4, LenEnc: api.BINARY, Size: 9999}
	deep := []api.Node{leaf(90, "x")}
	for range api.MaxNest - 1 {
		deep = []api.Node{inner(112, deep...)}
	}
	var many []api.Node
	for range api.MaxNodes {
		many = append(many, leaf(40706, "abc"))
	}
	comesBack(t, one(s), of("0200", kids(55, deep...)))
	comesBack(t, one(s), of("0200", kids(55, many...)))
	comesBack(t, one(s), of("0200", kids(55, inner(112), leaf(90, ""))))
	writes(t, one(s), of("0200", kids(55, inner(112, deep...))), "", api.ErrValue, 55)
	writes(t, one(s), of("0200", kids(55, append(many, leaf(1, ""))...)), "", api.ErrValue, 55)
	tellsOf(t, one(s), head(s)+"\x03\xEA"+strings.Repeat("\x5A\x00", 501), wrong(api.DefInner, 55, len(head(s))+2+1000))
	nested := "\x70\x02\x5A\x00"
	for range 7 {
		nested = "\x70" + string([]byte{byte(len(nested))}) + nested
	}
	tellsOf(t, one(s), head(s)+"\x00"+string([]byte{byte(len(nested))})+nested, wrong(api.DefInner, 55, len(head(s))+2+16))
	s = api.FieldSpec{Number: 48, Class: api.ClassS, Enc: api.ASCII, Digits: 4, LenEnc: api.ASCII, Size: 9999}
	comesBack(t, one(s), of("0200", kids(48, make([]api.Node, 500)...)))
	writes(t, one(s), of("0200", kids(48, make([]api.Node, 501)...)), "", api.ErrValue, 48)
	tellsOf(t, one(s), head(s)+"2004"+strings.Repeat("0000", 501), wrong(api.DefInner, 48, len(head(s))+4+2000))
}
