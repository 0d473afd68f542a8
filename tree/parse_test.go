package tree_test

import (
	"fmt"
	"math/rand"
	"slices"
	"strings"
	"testing"

	"turnstile/api"
	"turnstile/message"
	"turnstile/tree"
)

// tellsOf holds Parse and Spans against what must be told of bytes.
func tellsOf(t *testing.T, d api.Dialect, b string, want told) {
	t.Helper()
	m, x := tree.Parse(d, b)
	if x != want.defect || !message.Same(m, want.m) {
		t.Errorf("12.1: Parse(%.300v, %.200x) = %.200v, %v; must be %.200v, %v", d, b, m, x, want.m, want.defect)
	}
	l, x := tree.Spans(d, b)
	if x != want.defect || !slices.Equal(l, want.spans) {
		t.Errorf("12.3: Spans(%.300v, %.200x) = %v, %v; must be %v, %v", d, b, l, x, want.spans, want.defect)
	}
}

// agrees holds them against the second reading, and is the defect.
func agrees(t *testing.T, d api.Dialect, b string) api.Errno {
	t.Helper()
	want := wantRead(d, b)
	tellsOf(t, d, b, want)
	return want.defect.Code
}

// codes counts what was told; a test that sees too few of some is none.
type codes map[api.Errno]int

func (c codes) enough(t *testing.T, least int, all ...api.Errno) {
	t.Helper()
	for _, e := range all {
		if c[e] < least {
			t.Errorf("the test had too few of %d: %v", e, c)
		}
	}
}

const (
	short = "0200" + "2020000000000000" + "000000" + "\x00\x00\x42"
	track = "0200" + "2020000020000000" + "000000" + "\x00\x00\x42" + "\x07\x41\x11\xD3\x0F"
)

func TestExamples(t *testing.T) {
	three, eleven := field(3, "000000"), field(11, "000042")
	tellsOf(t, example(), short, told{m: of("0200", three, eleven), spans: [][2]int{{20, 6}, {26, 3}}})
	tellsOf(t, example(), track, told{m: of("0200", three, eleven, field(35, "4111=30")), spans: [][2]int{{20, 6}, {26, 3}, {29, 5}}})
	for _, c := range []struct {
		b    string
		want told
	}{
		{"0200", wrong(api.DefShort, 0, 4)},
		{"02x0", wrong(api.DefMTI, 0, 2)},
		{"0210" + short[4:], wrong(api.DefMTI, 0, 0)},
		{"0210", wrong(api.DefMTI, 0, 0)},
		{"0200" + "2000000000000000" + "000000", wrong(api.DefRule, 11, 26)},
		{short + "0", wrong(api.DefRest, 0, 29)},
		{track + "\x00", wrong(api.DefRest, 0, 34)},
		{track[:33] + "\x01", wrong(api.DefPad, 35, 33)},
	} {
		tellsOf(t, example(), c.b, c.want)
	}
}

// rich has a field of each class, and numbers on both sides of 64.
func rich() api.Dialect {
	return api.Dialect{
		Name: "rich", Version: 1, MTIEnc: api.BCD, MapEnc: api.BINARY, MAC: 128,
		Fields: []api.FieldSpec{
			{Number: 2, Class: api.ClassN, Enc: api.EBCDIC, Digits: 2, LenEnc: api.EBCDIC, Size: 19},
			{Number: 3, Class: api.ClassN, Enc: api.BCD, Size: 5},
			{Number: 28, Class: api.ClassX, Enc: api.ASCII, Digits: 1, LenEnc: api.BINARY, Size: 9},
			{Number: 43, Class: api.ClassANS, Enc: api.EBCDIC, Size: 3},
			{Number: 48, Class: api.ClassS, Enc: api.ASCII, Digits: 3, LenEnc: api.BCD, Size: 99},
			{Number: 55, Class: api.ClassT, Enc: api.BINARY, Digits: 3, LenEnc: api.BINARY, Size: 255},
			{Number: 64, Class: api.ClassA, Enc: api.ASCII, Size: 2},
			{Number: 66, Class: api.ClassAN, Enc: api.EBCDIC, Digits: 4, LenEnc: api.ASCII, Size: 1234},
			{Number: 102, Class: api.ClassZ, Enc: api.BCDR, Size: 3},
			{Number: 128, Class: api.ClassB, Enc: api.BINARY, Size: 8},
		},
		Rules: []api.Rule{
			{MTI: "1100", Must: []int{3, 128}, May: []int{2, 28, 43, 48, 55, 64, 66, 102}},
			{MTI: "1800", May: []int{2, 128}},
		},
	}
}

// full is a message of it with all its fields, and its bytes, part by part.
func full() (api.Message, []string) {
	m := of("1100", field(2, "41"), field(3, "12345"), field(28, "D07"), field(43, "a~["), kids(48, leaf(1, "x"), leaf(99, "")),
		kids(55, leaf(90, "\x01"), inner(112, leaf(40706, "\x00\xFF"))), field(64, "z "), field(66, "A1 b"), field(102, "1=2"), field(128, "\x00\x01\x02\x03\xFC\xFD\xFE\xFF"))
	return m, []string{
		"\x11\x00", "\xE0\x00\x00\x10\x00\x21\x02\x01\x40\x00\x00\x00\x04\x00\x00\x01",
		"\xF0\xF2\xF4\xF1", "\x01\x23\x45", "\x03D07", "\x81\xA1\xBA", "\x00\x090101x9900",
		"\x00\x0A\x5A\x01\x01\x70\x05\x9F\x02\x02\x00\xFF", "z ", "0004\xC1\xF1\x40\x82", "\x1D\x2F", "\x00\x01\x02\x03\xFC\xFD\xFE\xFF",
	}
}

func TestAllClasses(t *testing.T) {
	m, parts := full()
	want, at := told{m: m}, 0
	for i, part := range parts {
		if i > 1 {
			want.spans = append(want.spans, [2]int{at, len(part)})
		}
		at += len(part)
	}
	tellsOf(t, rich(), strings.Join(parts, ""), want)
	tellsOf(t, rich(), "\x18\x00\x00\x00\x00\x00\x00\x00\x00\x00", told{m: of("1800")})
}

// TestValueOrKids: what a field has not is empty.
func TestValueOrKids(t *testing.T) {
	_, parts := full()
	m, x := tree.Parse(rich(), strings.Join(parts, ""))
	if x != (api.Defect{}) || len(m.Fields) != 10 {
		t.Fatalf("12.1: Parse = %v, %v", m, x)
	}
	for _, f := range m.Fields {
		if inner := f.Number == 48 || f.Number == 55; inner != (f.Value == "") || inner != (len(f.Kids) > 0) {
			t.Errorf("12.1: field %d has the Value %q and the Kids %v", f.Number, f.Value, f.Kids)
		}
	}
}

// TestDefectsByHand: each defect as the chapter says it, in the dialect rich; what stands behind it does not count.
func TestDefectsByHand(t *testing.T) {
	_, p := full()
	all := strings.Join(p, "")
	const two, no = "\x18\x00", "\x00\x00\x00\x00\x00\x00\x00" // a type, and noughts of a bitmap
	for _, c := range []struct {
		b    string
		want told
	}{
		{"", wrong(api.DefShort, 0, 0)},
		{"\x11", wrong(api.DefShort, 0, 1)},
		{"\xFF", wrong(api.DefShort, 0, 1)},
		{"\x11\x0D" + p[1], wrong(api.DefMTI, 0, 1)}, // a sign = is a character of BCD, and no digit
		{"\xD1\xAA" + p[1], wrong(api.DefMTI, 0, 0)},
		{"\x01\x00" + p[1], wrong(api.DefMTI, 0, 0)},
		{"\x11\x10", wrong(api.DefMTI, 0, 0)},
		{"\x18\x00" + no, wrong(api.DefShort, 0, 9)},
		{"\x18\x00\x80" + no, wrong(api.DefShort, 0, 10)},
		{"\x18\x00\x80" + no + no, wrong(api.DefShort, 0, 17)},
		{"\x18\x00\x80" + no + no + "\x00", wrong(api.DefMap, 0, 10)},
		{"\x18\x00\x80" + no + "\x80" + no[1:] + "\x01", wrong(api.DefMap, 0, 10)},
		{"\x18\x00\x10" + no, wrong(api.DefUnknown, 4, 10)},
		{"\x18\x00\x50" + no + "\xF0\xF1\xF5", wrong(api.DefUnknown, 4, 13)},
		{two + "\x40" + no, wrong(api.DefShort, 2, 10)},
		{two + "\x40" + no + "\xF1", wrong(api.DefShort, 2, 11)},
		{two + "\x40" + no + "\x00", wrong(api.DefShort, 2, 11)},
		{two + "\x40" + no + "\xF0\xF0", wrong(api.DefLength, 2, 10)},
		{two + "\x40" + no + "\xF2\xF0", wrong(api.DefLength, 2, 10)},
		{two + "\x40" + no + "\xF1\x31", wrong(api.DefLength, 2, 10)},
		{two + "\x40" + no + "\xF1\xF9", wrong(api.DefShort, 2, 12)},
		{two + "\x40" + no + "\xF0\xF2\x00", wrong(api.DefShort, 2, 13)},
		{two + "\x40" + no + "\xF0\xF2\xF1\x31", wrong(api.DefContent, 2, 13)},
		{two + "\x40" + no + "\xF0\xF2\xF1\xC1", wrong(api.DefContent, 2, 13)},
		{two + "\x40" + no + "\xF0\xF2\xC1\x31", wrong(api.DefContent, 2, 12)},
		{two + "\x40" + no + "\xF0\xF1\xF1\x31", wrong(api.DefRest, 0, 13)},
		{two + "\x20" + no + "\x11\x23\x4A", wrong(api.DefPad, 3, 10)},
		{two + "\x20" + no + "\x1A\x23\x45", wrong(api.DefContent, 3, 10)},
		{two + "\x20" + no + "\x1D\x23\x45", wrong(api.DefContent, 3, 10)}, // a sign = counts ahead of the filling
		{two + "\x20" + no + "\xA1\x23\x45", wrong(api.DefPad, 3, 10)},
		{two + "\x20" + no + "\x01\x23\x4D", wrong(api.DefContent, 3, 12)},
		{two + "\x20" + no + "\x01\x23\x45", wrong(api.DefRule, 3, 10)},
		{two + "\x60" + no + "\xF0\xF1\xF1" + "\x01\x23\x45", wrong(api.DefRule, 3, 13)},
		{two + "\x60" + no + "\xF0\xF1\xF1" + "\x01\x23\x45\x00", wrong(api.DefRest, 0, 16)},
		{"\x11\x00\x40" + no + "\xF0\xF1\xF1", wrong(api.DefRule, 3, 13)},
		{"\x11\x00\x20" + no + "\x01\x23\x45", wrong(api.DefRule, 128, 13)},
		{"\x11\x00\x00" + no, wrong(api.DefRule, 3, 10)},
		{all + "\x00", wrong(api.DefRest, 0, len(all))},
		{strings.Join(p[:4], "") + "\x01D", wrong(api.DefLength, 28, 25)},
		{strings.Join(p[:4], "") + "\x00", wrong(api.DefLength, 28, 25)},
		{strings.Join(p[:4], "") + "\x0A", wrong(api.DefLength, 28, 25)},
		{strings.Join(p[:4], "") + "\x02x1", wrong(api.DefContent, 28, 26)},
		{strings.Join(p[:4], "") + "\x02CC", wrong(api.DefContent, 28, 27)},
		{strings.Join(p[:4], "") + "\x02C", wrong(api.DefShort, 28, 27)},
		{strings.Join(p[:4], "") + "\x02x", wrong(api.DefShort, 28, 27)},
		{strings.Join(p[:6], "") + "\x00\x050102x", wrong(api.DefInner, 48, 39)},
		{strings.Join(p[:6], "") + "\x00\x050101\x00", wrong(api.DefInner, 48, 38)},
		{strings.Join(p[:6], "") + "\x00\x05010", wrong(api.DefShort, 48, 37)},
		{strings.Join(p[:6], "") + "\x10\x05010", wrong(api.DefLength, 48, 32)},
		{strings.Join(p[:7], "") + "\x00\x03\x5A\x81\x05", wrong(api.DefInner, 55, 46)},
		{strings.Join(p[:7], "") + "\x00\x03\x5A\x02\x05\x05", wrong(api.DefInner, 55, 48)},
		{strings.Join(p[:7], "") + "\x01\x00", wrong(api.DefLength, 55, 43)},
		{strings.Join(p[:10], "") + "\x1D\xAF", wrong(api.DefContent, 102, len(all)-9)},
		{strings.Join(p[:10], "") + "\x1D\x20", wrong(api.DefPad, 102, len(all)-9)},
		{strings.Join(p[:11], "") + p[11][:7], wrong(api.DefShort, 128, len(all)-1)},
	} {
		tellsOf(t, rich(), c.b, c.want)
		agrees(t, rich(), c.b)
	}
}

// TestEveryCut: whatever is left of a message, it ends too early.
func TestEveryCut(t *testing.T) {
	_, parts := full()
	all := strings.Join(parts, "")
	for n := range all {
		if e := agrees(t, rich(), all[:n]); e != api.DefShort {
			t.Errorf("12.1: of %d bytes: %d", n, e)
		}
	}
	for n := range track {
		if e := agrees(t, example(), track[:n]); e != api.DefShort {
			t.Errorf("12.1: of %d bytes: %d", n, e)
		}
	}
}

// TestEveryByteOfTheType, alone and with another one wrong behind it.
func TestEveryByteOfTheType(t *testing.T) {
	seen := codes{}
	for _, enc := range []int{api.ASCII, api.BCD, api.EBCDIC} {
		d := example()
		d.MTIEnc = enc
		d.Rules = append(d.Rules, api.Rule{MTI: "0210", Must: []int{3}, May: []int{11}})
		for _, mti := range []string{"0200", "0210", "0220", "1200", "0000", "9999"} {
			b := packed(enc, mti)
			for at := range b {
				for c := range 256 {
					bent := b[:at] + string([]byte{byte(c)}) + b[at+1:]
					seen[agrees(t, d, bent+short[4:])]++
					seen[agrees(t, d, bent)]++
					if at < len(b)-1 {
						seen[agrees(t, d, bent[:len(b)-1]+"\x00"+short[4:])]++
					}
				}
			}
		}
	}
	seen.enough(t, 6, api.OK, api.DefShort, api.DefMTI)
}

// ofAllFields is a dialect with all fields that there are, a byte each.
func ofAllFields(enc int) api.Dialect {
	d := api.Dialect{Name: "all", MTIEnc: api.ASCII, MapEnc: enc, Rules: []api.Rule{{MTI: "0200"}}}
	for n := 2; n <= 128; n++ {
		if n != 65 {
			d.Fields = append(d.Fields, api.FieldSpec{Number: n, Class: api.ClassB, Enc: api.BINARY, Size: 1})
			d.Rules[0].May = append(d.Rules[0].May, n)
		}
	}
	return d
}

func TestEveryByteOfTheMap(t *testing.T) {
	seen := codes{}
	for _, enc := range []int{api.ASCII, api.EBCDIC, api.BINARY} {
		d := ofAllFields(enc)
		for _, row := range []string{strings.Repeat("01", 64), strings.Repeat("0", 127) + "1"} {
			b := wantMapBytes(enc, row)
			for at := range b {
				for c := range 256 {
					bent := "0200" + b[:at] + string([]byte{byte(c)}) + b[at+1:]
					many := strings.Count(row, "1")
					for _, content := range []string{strings.Repeat("v", many), strings.Repeat("v", 150)} {
						seen[agrees(t, d, bent+content)]++
					}
				}
				agrees(t, d, "0200"+b[:at])
			}
		}
	}
	seen.enough(t, 50, api.OK, api.DefShort, api.DefMap, api.DefRest)
}

// TestEveryFieldAlone: of each number, in a dialect that has it, and in one that has not.
func TestEveryFieldAlone(t *testing.T) {
	for n := 2; n <= 128; n++ {
		if n == 65 {
			continue
		}
		s := api.FieldSpec{Number: n, Class: api.ClassN, Enc: api.ASCII, Size: 1}
		tellsOf(t, one(s), head(s)+"7", told{m: of("0200", field(n, "7")), spans: [][2]int{{len(head(s)), 1}}})
		other := s
		if other.Number = n - 1; n == 2 || n == 66 {
			other.Number = n + 1
		}
		tellsOf(t, one(other), head(s)+"7", wrong(api.DefUnknown, n, len(head(s))))
	}
}

// lengthTexts are bytes that may stand for a length: all of one and two, many of more.
func lengthTexts(kind lengthKind) []string {
	var l []string
	switch width := prefixWidth(kind.enc, kind.digits); width {
	case 1:
		for c := range 256 {
			l = append(l, string([]byte{byte(c)}))
		}
	case 2:
		for c := range 1 << 16 {
			l = append(l, string([]byte{byte(c >> 8), byte(c)}))
		}
	default:
		for _, n := range []int{0, 2, 100} {
			b := wantPrefix(kind.enc, kind.digits, n)
			for at := range b {
				for c := range 256 {
					l = append(l, b[:at]+string([]byte{byte(c)})+b[at+1:])
				}
			}
		}
	}
	return l
}

func TestEveryLength(t *testing.T) {
	seen := codes{}
	contents := map[int]string{api.ClassN: strings.Repeat("1", 120), api.ClassX: "C" + strings.Repeat("1", 120), api.ClassB: strings.Repeat("\xFF", 120)}
	for kind, all := range lengths {
		texts, width := lengthTexts(kind), prefixWidth(kind.enc, kind.digits)
		for _, size := range []int{1, 2, 9, 99, 100, 9999} {
			for class, content := range contents {
				s := api.FieldSpec{Number: 7, Class: class, Enc: encodings[class][0], Digits: kind.digits, LenEnc: kind.enc, Size: size}
				if size >= len(all) || class == api.ClassX && size == 1 {
					continue
				}
				d, ahead := one(s), head(s)
				for i, b := range texts {
					if few := all[b] > 0 && all[b] <= 3; width == 2 && !few && i%97 != size%97 {
						continue
					}
					seen[agrees(t, d, ahead+b+content[:min(len(content), max(all[b], 1))])]++
				}
			}
		}
	}
	seen.enough(t, 500, api.OK, api.DefShort, api.DefLength)
}

// TestLengthsAtTheirEdges: each length from none to more than the spec's Size, of each class.
func TestLengthsAtTheirEdges(t *testing.T) {
	seen := codes{}
	r := rand.New(rand.NewSource(1201))
	for _, size := range []int{2, 5, 9, 12} {
		for _, s := range allSpecs(9, size) {
			if s.Digits == 0 {
				continue
			}
			for n := range min(size+3, len(lengths[lengthKind{s.LenEnc, s.Digits}])) {
				content := textOf(r, api.ClassB, n)
				switch {
				case s.Class < api.ClassT && s.Class != api.ClassB:
					content = packed(s.Enc, textOf(r, s.Class, n))
				case s.Class == api.ClassT && n > 1:
					content = "\x5A" + string([]byte{byte(n - 2)}) + strings.Repeat("v", n-2)
				case s.Class == api.ClassS && n > 3:
					content = fmt.Sprintf("07%02d", n-4) + strings.Repeat("v", n-4)
				}
				seen[agrees(t, one(s), head(s)+wantPrefix(s.LenEnc, s.Digits, n)+content)]++
			}
		}
	}
	seen.enough(t, 50, api.OK, api.DefLength, api.DefInner)
}

// TestEveryByteOfContent: in each class and encoding, at each place, each byte.
func TestEveryByteOfContent(t *testing.T) {
	seen := codes{}
	r := rand.New(rand.NewSource(1202))
	for _, s := range allSpecs(4, 5) {
		if s.Digits > 1 || s.Digits == 1 && s.LenEnc != api.ASCII || s.Class == api.ClassB {
			continue
		}
		for count := range 6 {
			if count < 2 || s.Digits == 0 && count < 5 || s.Class == api.ClassS && count < 4 {
				continue
			}
			f := field(4, textOf(r, min(s.Class, api.ClassX), count))
			switch s.Class {
			case api.ClassT:
				f = kids(4, leaf(90, f.Value[2:]))
			case api.ClassS:
				f = kids(4, leaf(9, f.Value[4:]))
			}
			b := wantBytes(s, f)
			for at := range b {
				for c := range 256 {
					seen[agrees(t, one(s), head(s)+b[:at]+string([]byte{byte(c)})+b[at+1:])]++
				}
			}
		}
	}
	seen.enough(t, 10, api.OK, api.DefContent, api.DefPad, api.DefInner)
}

// TestAllPairsOfHalves: in each encoding with halves all rows of two bytes, of each number of characters that they hold.
func TestAllPairsOfHalves(t *testing.T) {
	seen := codes{}
	for _, s := range []api.FieldSpec{
		{Number: 2, Class: api.ClassN, Enc: api.BCD, Size: 3}, {Number: 2, Class: api.ClassN, Enc: api.BCD, Size: 4},
		{Number: 2, Class: api.ClassZ, Enc: api.BCDR, Size: 3}, {Number: 2, Class: api.ClassZ, Enc: api.BCDR, Size: 4},
	} {
		d, ahead := one(s), head(s)
		for c := range 1 << 16 {
			seen[agrees(t, d, ahead+string([]byte{byte(c >> 8), byte(c)}))]++
		}
	}
	seen.enough(t, 1000, api.OK, api.DefContent, api.DefPad)
}

// TestTheFirstByteCounts: of two bytes that are wrong, whatever is wrong with each.
func TestTheFirstByteCounts(t *testing.T) {
	for _, enc := range []int{api.ASCII, api.EBCDIC} {
		for _, class := range []int{api.ClassN, api.ClassA, api.ClassAN, api.ClassANS, api.ClassZ, api.ClassX} {
			s := api.FieldSpec{Number: 2, Class: class, Enc: enc, Size: 3}
			for _, first := range []string{"1", "C", "=", "~", "\x00", "\xF1", "\xC3", "\x7E", "\xA1", "\x40", " "} {
				for _, second := range []string{"1", "C", "=", "~", "\x00", "\xF1", "\xC3", "\x7E", "\xA1", "\x40", " "} {
					agrees(t, one(s), head(s)+first+second+"1")
					agrees(t, one(s), head(s)+first+second+"\xF1")
					agrees(t, one(s), head(s)+"C"+first+second)
					agrees(t, one(s), head(s)+"\xC3"+first+second)
				}
			}
		}
	}
}

// TestEveryRule: three fields, each wanted, let or neither, and there or not; with and without a byte behind.
func TestEveryRule(t *testing.T) {
	seen := codes{}
	for named := range 27 {
		d := api.Dialect{Name: "r", MTIEnc: api.ASCII, MapEnc: api.BINARY, Rules: []api.Rule{{MTI: "0100"}, {MTI: "0200"}, {MTI: "0210", Must: []int{3, 40, 100}}}}
		for i, n := range []int{3, 40, 100} {
			d.Fields = append(d.Fields, api.FieldSpec{Number: n, Class: api.ClassN, Enc: api.ASCII, Digits: 1, LenEnc: api.ASCII, Size: 4})
			switch named / []int{1, 3, 9}[i] % 3 {
			case 1:
				d.Rules[1].Must = append(d.Rules[1].Must, n)
			case 2:
				d.Rules[1].May = append(d.Rules[1].May, n)
			}
		}
		for there := range 8 {
			row, content := []byte(strings.Repeat("0", 128)), ""
			for i, n := range []int{3, 40, 100} {
				if there>>i&1 == 1 {
					row[n-1] = '1'
					content += []string{"11", "212", "3123"}[i]
				}
			}
			b := "0200" + wantMapBytes(api.BINARY, string(row)) + content
			seen[agrees(t, d, b)]++
			seen[agrees(t, d, b+"0")]++
		}
	}
	seen.enough(t, 60, api.OK, api.DefRule, api.DefRest)
}

// TestTheGreatestSize: 9999 bytes are a message, and one more is none, whatever the bytes are.
func TestTheGreatestSize(t *testing.T) {
	d := example()
	d.Fields = []api.FieldSpec{{Number: 2, Class: api.ClassB, Enc: api.BINARY, Digits: 4, LenEnc: api.ASCII, Size: 9999}}
	d.Rules = []api.Rule{{MTI: "0200", Must: []int{2}}}
	ahead := "0200" + "4000000000000000"
	value := strings.Repeat("v", 9975)
	tellsOf(t, d, ahead+"9975"+value, told{m: of("0200", field(2, value)), spans: [][2]int{{20, 9979}}})
	for _, b := range []string{ahead + "9976" + value + "v", ahead + "9975" + value + "v", strings.Repeat("0", 10000), strings.Repeat("x", 10000), strings.Repeat("\x00", 70000)} {
		tellsOf(t, d, b, wrong(api.DefRest, 0, 9999))
	}
	tellsOf(t, d, strings.Repeat("x", 9999), wrong(api.DefMTI, 0, 0))
	wrongly := d
	wrongly.Name = ""
	tellsOf(t, wrongly, strings.Repeat("x", 10000), wrong(api.ErrName, 0, 0))
}

// TestLongContents: of each class as many characters as there can be, and of each the last byte wrong.
func TestLongContents(t *testing.T) {
	r := rand.New(rand.NewSource(1203))
	seen := codes{}
	for _, s := range allSpecs(2, 9900) {
		if s.Class >= api.ClassT || s.Digits != 0 && s.LenEnc != api.BCD {
			continue
		}
		b := head(s) + wantBytes(s, field(2, textOf(r, s.Class, 9900)))
		seen[agrees(t, one(s), b)]++
		seen[agrees(t, one(s), b[:len(b)-1]+"\x00")]++
		seen[agrees(t, one(s), b[:len(b)-1])]++
	}
	seen.enough(t, 5, api.OK, api.DefContent, api.DefShort)
}

// TestDialectsThatAreNotRight: their error is told, and nothing of the bytes.
func TestDialectsThatAreNotRight(t *testing.T) {
	seen := codes{}
	r := rand.New(rand.NewSource(1204))
	for range 4000 {
		d := bentDialect(r, oneOf(r, example(), rich(), rightDialect(r)))
		for _, b := range []string{"", short, track, "0200", strings.Repeat("0", 10000)} {
			seen[agrees(t, d, b)]++
		}
	}
	seen.enough(t, 20, api.ErrName, api.ErrVersion, api.ErrField, api.ErrClass, api.ErrSize, api.ErrRule, api.ErrMAC)
	d := example()
	d.Fields[1].Size = 0
	tellsOf(t, d, track, wrong(api.ErrSize, 1, 0))
	d = example()
	d.Rules[0].May = []int{36}
	d.Rules = append([]api.Rule{{MTI: "0100"}}, d.Rules...)
	tellsOf(t, d, "", wrong(api.ErrRule, 1, 0))
}

// TestManyMessages: right ones of right dialects, those bytes bent, and bytes of which the rule wants others.
func TestManyMessages(t *testing.T) {
	seen := codes{}
	r := rand.New(rand.NewSource(1205))
	for range 6000 {
		d := rightDialect(r)
		if len(d.Rules) == 0 {
			continue
		}
		rule := oneOf(r, d.Rules...)
		b, e, _ := wantBuild(d, rightMessage(r, d, rule))
		if e != api.OK {
			t.Fatalf("the test made a message that does not fit: %d", e)
		}
		if e := agrees(t, d, b); e != api.OK {
			t.Errorf("12.1: Parse of a right message: %d", e)
		}
		for range 6 {
			bent := bentBytes(r, b)
			seen[agrees(t, d, bent)]++
			seen[agrees(t, d, bentBytes(r, bent))]++
		}
		all := lenient(d)
		b, _, _ = wantBuild(all, rightMessage(r, all, oneOf(r, all.Rules...)))
		seen[agrees(t, d, b)]++
		seen[agrees(t, d, bentBytes(r, b))]++
	}
	seen.enough(t, 100, api.OK, api.DefShort, api.DefMTI, api.DefMap, api.DefUnknown, api.DefLength, api.DefContent, api.DefPad, api.DefInner, api.DefRest, api.DefRule)
}
