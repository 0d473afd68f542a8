package scan_test

import (
	"fmt"
	"math/rand"
	"strings"
	"testing"

	"turnstile/api"
)

func TestExamples(t *testing.T) {
	x := compiled(t, example())
	three, eleven := field(3, "000000"), field(11, "000042")
	tellsOf(t, x, short, told{m: of("0200", three, eleven), spans: [][2]int{{20, 6}, {26, 3}}})
	tellsOf(t, x, track, told{m: of("0200", three, eleven, field(35, "4111=30")), spans: [][2]int{{20, 6}, {26, 3}, {29, 5}}})
	for _, c := range []struct {
		b    string
		want told
	}{
		{"0200", wrong(api.DefShort, 0, 4)},
		{"02x0", wrong(api.DefMTI, 0, 2)},
		{"0210" + short[4:], wrong(api.DefMTI, 0, 0)},
		{"0210", wrong(api.DefMTI, 0, 0)},
		{"0200" + "2000000000000000" + "000000", wrong(api.DefRule, 11, 26)},
		{short + "0", wrong(api.DefRest, 0, 29)},
		{short[:28], wrong(api.DefShort, 11, 28)},
		{track + "\x00", wrong(api.DefRest, 0, 34)},
		{track[:33] + "\x01", wrong(api.DefPad, 35, 33)},
	} {
		tellsOf(t, x, c.b, c.want)
	}
}

func TestAllClasses(t *testing.T) {
	m, parts := full()
	want, at := told{m: m}, 0
	for i, part := range parts {
		if i > 1 {
			want.spans = append(want.spans, [2]int{at, len(part)})
		}
		at += len(part)
	}
	x := compiled(t, rich())
	tellsOf(t, x, strings.Join(parts, ""), want)
	read, _ := x.table.Parse(strings.Join(parts, ""))
	for _, f := range read.Fields {
		if inner := f.Number == 48 || f.Number == 55; inner != (f.Value == "") || inner != (len(f.Kids) > 0) {
			t.Errorf("13.3: field %d has the Value %q and the Kids %v", f.Number, f.Value, f.Kids)
		}
	}
	tellsOf(t, x, "\x18\x00\x00\x00\x00\x00\x00\x00\x00\x00", told{m: of("1800")})
}

// TestDefectsByHand: each defect as the chapter says it, in the dialect rich; what stands behind it does not count.
func TestDefectsByHand(t *testing.T) {
	_, p := full()
	all := strings.Join(p, "")
	x := compiled(t, rich())
	const two, no = "\x18\x00", "\x00\x00\x00\x00\x00\x00\x00" // a type, and noughts of a bitmap
	for _, c := range []struct {
		b    string
		want told
	}{
		{"", wrong(api.DefShort, 0, 0)},
		{"\x11", wrong(api.DefShort, 0, 1)},
		{"\xFF", wrong(api.DefShort, 0, 1)},
		{"\x11\x0D" + p[1], wrong(api.DefMTI, 0, 1)}, // a sign = is a character of BCD, and no digit
		{"\xD1\xAA" + p[1], wrong(api.DefMTI, 0, 0)},
		{"\x01\x00" + p[1], wrong(api.DefMTI, 0, 0)},
		{"\x11\x10", wrong(api.DefMTI, 0, 0)},
		{"\x18\x00" + no, wrong(api.DefShort, 0, 9)},
		{"\x18\x00\x80" + no, wrong(api.DefShort, 0, 10)},
		{"\x18\x00\x80" + no + no, wrong(api.DefShort, 0, 17)},
		{"\x18\x00\x80" + no + no + "\x00", wrong(api.DefMap, 0, 10)},
		{"\x18\x00\x80" + no + "\x80" + no[1:] + "\x01", wrong(api.DefMap, 0, 10)},
		{"\x18\x00\x10" + no, wrong(api.DefUnknown, 4, 10)},
		{"\x18\x00\x50" + no + "\xF0\xF1\xF5", wrong(api.DefUnknown, 4, 13)},
		{two + "\x40" + no, wrong(api.DefShort, 2, 10)},
		{two + "\x40" + no + "\xF1", wrong(api.DefShort, 2, 11)},
		{two + "\x40" + no + "\x00", wrong(api.DefShort, 2, 11)},
		{two + "\x40" + no + "\xF0\xF0", wrong(api.DefLength, 2, 10)},
		{two + "\x40" + no + "\xF2\xF0", wrong(api.DefLength, 2, 10)},
		{two + "\x40" + no + "\xF1\x31", wrong(api.DefLength, 2, 10)},
		{two + "\x40" + no + "\xF1\xF9", wrong(api.DefShort, 2, 12)},
		{two + "\x40" + no + "\xF0\xF2\x00", wrong(api.DefShort, 2, 13)},
		{two + "\x40" + no + "\xF0\xF2\xF1\x31", wrong(api.DefContent, 2, 13)},
		{two + "\x40" + no + "\xF0\xF2\xF1\xC1", wrong(api.DefContent, 2, 13)},
		{two + "\x40" + no + "\xF0\xF2\xC1\x31", wrong(api.DefContent, 2, 12)},
		{two + "\x40" + no + "\xF0\xF1\xF1\x31", wrong(api.DefRest, 0, 13)},
		{two + "\x20" + no + "\x11\x23\x4A", wrong(api.DefPad, 3, 10)},
		{two + "\x20" + no + "\x1A\x23\x45", wrong(api.DefContent, 3, 10)},
		{two + "\x20" + no + "\x1D\x23\x45", wrong(api.DefContent, 3, 10)}, // a sign = counts ahead of the filling
		{two + "\x20" + no + "\xA1\x23\x45", wrong(api.DefPad, 3, 10)},
		{two + "\x20" + no + "\x01\x23\x4D", wrong(api.DefContent, 3, 12)},
		{two + "\x20" + no + "\x01\x23\x45", wrong(api.DefRule, 3, 10)},
		{two + "\x60" + no + "\xF0\xF1\xF1" + "\x01\x23\x45", wrong(api.DefRule, 3, 13)},
		{two + "\x60" + no + "\xF0\xF1\xF1" + "\x01\x23\x45\x00", wrong(api.DefRest, 0, 16)},
		{"\x11\x00\x40" + no + "\xF0\xF1\xF1", wrong(api.DefRule, 3, 13)},
		{"\x11\x00\x20" + no + "\x01\x23\x45", wrong(api.DefRule, 128, 13)},
		{"\x11\x00\x00" + no, wrong(api.DefRule, 3, 10)},
		{all + "\x00", wrong(api.DefRest, 0, len(all))},
		{strings.Join(p[:4], "") + "\x01D", wrong(api.DefLength, 28, 25)},
		{strings.Join(p[:4], "") + "\x00", wrong(api.DefLength, 28, 25)},
		{strings.Join(p[:4], "") + "\x0A", wrong(api.DefLength, 28, 25)},
		{strings.Join(p[:4], "") + "\x02x1", wrong(api.DefContent, 28, 26)},
		{strings.Join(p[:4], "") + "\x02CC", wrong(api.DefContent, 28, 27)},
		{strings.Join(p[:4], "") + "\x02C", wrong(api.DefShort, 28, 27)},
		{strings.Join(p[:4], "") + "\x02x", wrong(api.DefShort, 28, 27)},
		{strings.Join(p[:6], "") + "\x00\x050102x", wrong(api.DefInner, 48, 39)},
		{strings.Join(p[:6], "") + "\x00\x050101\x00", wrong(api.DefInner, 48, 38)},
		{strings.Join(p[:6], "") + "\x00\x05010", wrong(api.DefShort, 48, 37)},
		{strings.Join(p[:6], "") + "\x10\x05010", wrong(api.DefLength, 48, 32)},
		{strings.Join(p[:7], "") + "\x00\x03\x5A\x81\x05", wrong(api.DefInner, 55, 46)},
		{strings.Join(p[:7], "") + "\x00\x03\x5A\x02\x05\x05", wrong(api.DefInner, 55, 48)},
		{strings.Join(p[:7], "") + "\x01\x00", wrong(api.DefLength, 55, 43)},
		{strings.Join(p[:10], "") + "\x1D\xAF", wrong(api.DefContent, 102, len(all)-9)},
		{strings.Join(p[:10], "") + "\x1D\x20", wrong(api.DefPad, 102, len(all)-9)},
		{strings.Join(p[:11], "") + p[11][:7], wrong(api.DefShort, 128, len(all)-1)},
	} {
		tellsOf(t, x, c.b, c.want)
		agrees(t, x, c.b)
	}
}

// TestEveryCut: whatever is left of a message, it ends too early.
func TestEveryCut(t *testing.T) {
	_, parts := full()
	all := strings.Join(parts, "")
	for text, x := range map[string]made{all: compiled(t, rich()), track: compiled(t, example())} {
		for n := range text {
			if e := agrees(t, x, text[:n]); e != api.DefShort {
				t.Errorf("13.3: of %d bytes: %d", n, e)
			}
		}
	}
}

// TestEveryByteOfTheType, alone and with another one wrong behind it.
func TestEveryByteOfTheType(t *testing.T) {
	seen := codes{}
	for _, enc := range []int{api.ASCII, api.BCD, api.EBCDIC} {
		d := example()
		d.MTIEnc = enc
		d.Rules = append(d.Rules, api.Rule{MTI: "0210", Must: []int{3}, May: []int{11}})
		x := compiled(t, d)
		for _, mti := range []string{"0200", "0210", "0220", "1200", "0000", "9999"} {
			b := packed(enc, mti)
			for at := range b {
				for c := range 256 {
					bent := b[:at] + string([]byte{byte(c)}) + b[at+1:]
					seen[agrees(t, x, bent+short[4:])]++
					seen[agrees(t, x, bent)]++
					if at < len(b)-1 {
						seen[agrees(t, x, bent[:len(b)-1]+"\x00"+short[4:])]++
					}
				}
			}
		}
	}
	seen.enough(t, 6, api.OK, api.DefShort, api.DefMTI)
}

func TestEveryByteOfTheMap(t *testing.T) {
	seen := codes{}
	var even []int
	for n := 2; n <= 128; n += 2 {
		even = append(even, n)
	}
	for _, enc := range []int{api.ASCII, api.EBCDIC, api.BINARY} {
		x := compiled(t, ofAllFields(enc))
		for _, numbers := range [][]int{even, {128}} {
			b := mapBytes(enc, numbers...)
			for at := range b {
				for c := range 256 {
					bent := "0200" + b[:at] + string([]byte{byte(c)}) + b[at+1:]
					for _, content := range []string{strings.Repeat("v", len(numbers)), strings.Repeat("v", 150)} {
						seen[agrees(t, x, bent+content)]++
					}
				}
				agrees(t, x, "0200"+b[:at])
			}
		}
	}
	seen.enough(t, 50, api.OK, api.DefShort, api.DefMap, api.DefRest)
}

// TestEveryFieldAlone: of each number, in a dialect that has it, and in one that has not.
func TestEveryFieldAlone(t *testing.T) {
	for n := 2; n <= 128; n++ {
		if n == 65 {
			continue
		}
		s := api.FieldSpec{Number: n, Class: api.ClassN, Enc: api.ASCII, Size: 1}
		x := compiled(t, one(s))
		tellsOf(t, x, head(s)+"7", told{m: of("0200", field(n, "7")), spans: [][2]int{{len(head(s)), 1}}})
		hasNoOther(t, x.s, of("0200", field(n, "7")))
		other := s
		if other.Number = n - 1; n == 2 || n == 66 {
			other.Number = n + 1
		}
		tellsOf(t, compiled(t, one(other)), head(s)+"7", wrong(api.DefUnknown, n, len(head(s))))
	}
}

// lengthTexts are bytes that may stand for a length: all of one and two, many of more.
func lengthTexts(s api.FieldSpec) []string {
	var l []string
	switch len(prefix(s, 1)) {
	case 1:
		for c := range 256 {
			l = append(l, string([]byte{byte(c)}))
		}
	case 2:
		for c := range 1 << 16 {
			if c%23 == 0 || c < 300 {
				l = append(l, string([]byte{byte(c >> 8), byte(c)}))
			}
		}
		fallthrough
	default:
		for _, n := range []int{0, 1, 2, 9, 100} {
			b := prefix(s, n)
			for at := range b {
				for c := range 256 {
					l = append(l, b[:at]+string([]byte{byte(c)})+b[at+1:])
				}
			}
		}
	}
	return l
}

func TestEveryLength(t *testing.T) {
	seen := codes{}
	contents := map[int]string{api.ClassN: strings.Repeat("1", 120), api.ClassX: "C" + strings.Repeat("1", 120), api.ClassB: strings.Repeat("\xFF", 120)}
	for _, size := range []int{2, 9, 99, 9999} {
		for _, s := range allSpecs(7, size) {
			content, ok := contents[s.Class]
			if !ok || s.Digits == 0 || s.Enc != encodings[s.Class][0] {
				continue
			}
			x, ahead := compiled(t, one(s)), head(s)
			for i, b := range lengthTexts(s) {
				seen[agrees(t, x, ahead+b+content[:i%4])]++
				if i%5 == 0 {
					seen[agrees(t, x, ahead+b+content)]++
				}
			}
		}
	}
	seen.enough(t, 500, api.OK, api.DefShort, api.DefLength)
}

// TestLengthsAtTheirEdges: each length from none to more than the spec's Size, of each class.
func TestLengthsAtTheirEdges(t *testing.T) {
	seen := codes{}
	r := rand.New(rand.NewSource(1303))
	for _, size := range []int{2, 5, 9, 12} {
		for _, s := range allSpecs(9, size) {
			if s.Digits == 0 {
				continue
			}
			x := compiled(t, one(s))
			for n := range size + 3 {
				content := textOf(r, api.ClassB, n)
				switch {
				case s.Class < api.ClassT && s.Class != api.ClassB:
					content = packed(s.Enc, textOf(r, s.Class, n))
				case s.Class == api.ClassT && n > 1:
					content = "\x5A" + string([]byte{byte(n - 2)}) + strings.Repeat("v", n-2)
				case s.Class == api.ClassS && n > 3:
					content = fmt.Sprintf("07%02d", n-4) + strings.Repeat("v", n-4)
				}
				seen[agrees(t, x, head(s)+prefix(s, n)+content)]++
			}
		}
	}
	seen.enough(t, 50, api.OK, api.DefLength, api.DefInner)
}

// TestEveryByteOfContent: in each class and encoding, at each place, each byte; fields of each number of characters.
func TestEveryByteOfContent(t *testing.T) {
	seen := codes{}
	r := rand.New(rand.NewSource(1304))
	for _, s := range allSpecs(4, 5) {
		if s.Digits > 1 || s.Digits == 1 && s.LenEnc != api.ASCII || s.Class == api.ClassB {
			continue
		}
		x := compiled(t, one(s))
		for count := range 6 {
			if count < 2 || s.Digits == 0 && count < 5 || s.Class == api.ClassS && count < 4 {
				continue
			}
			f := field(4, textOf(r, min(s.Class, api.ClassX), count))
			switch s.Class {
			case api.ClassT:
				f = kids(4, leaf(90, f.Value[2:]))
			case api.ClassS:
				f = kids(4, leaf(9, f.Value[4:]))
			}
			b, _, _ := x.table.Build(of("0200", f))
			for at := len(head(s)); at < len(b); at++ {
				for c := range 256 {
					seen[agrees(t, x, b[:at]+string([]byte{byte(c)})+b[at+1:])]++
				}
			}
		}
	}
	seen.enough(t, 10, api.OK, api.DefContent, api.DefPad, api.DefInner)
}

// TestAllPairsOfHalves: in each encoding with halves all rows of two bytes, of each number of characters that they hold.
func TestAllPairsOfHalves(t *testing.T) {
	seen := codes{}
	for _, s := range []api.FieldSpec{
		{Number: 2, Class: api.ClassN, Enc: api.BCD, Size: 3}, {Number: 2, Class: api.ClassN, Enc: api.BCD, Size: 4},
		{Number: 2, Class: api.ClassZ, Enc: api.BCDR, Size: 3}, {Number: 2, Class: api.ClassZ, Enc: api.BCDR, Size: 4},
	} {
		x, ahead := compiled(t, one(s)), head(s)
		for c := range 1 << 16 {
			seen[agrees(t, x, ahead+string([]byte{byte(c >> 8), byte(c)}))]++
		}
	}
	seen.enough(t, 1000, api.OK, api.DefContent, api.DefPad)
}

// TestTheFirstByteCounts: of two bytes that are wrong, whatever is wrong with each.
func TestTheFirstByteCounts(t *testing.T) {
	some := []string{"1", "C", "=", "~", "\x00", "\xF1", "\xC3", "\x7E", "\xA1", "\x40", " "}
	for _, enc := range []int{api.ASCII, api.EBCDIC} {
		for _, class := range []int{api.ClassN, api.ClassA, api.ClassAN, api.ClassANS, api.ClassZ, api.ClassX} {
			s := api.FieldSpec{Number: 2, Class: class, Enc: enc, Size: 3}
			x := compiled(t, one(s))
			for _, first := range some {
				for _, second := range some {
					agrees(t, x, head(s)+first+second+"1")
					agrees(t, x, head(s)+first+second+"\xF1")
					agrees(t, x, head(s)+"C"+first+second)
					agrees(t, x, head(s)+"\xC3"+first+second)
				}
			}
		}
	}
}

// TestEveryRule: three fields, each wanted, let or neither, and there or not; with and without a byte behind.
func TestEveryRule(t *testing.T) {
	seen := codes{}
	for named := range 27 {
		d := api.Dialect{Name: "r", MTIEnc: api.ASCII, MapEnc: api.BINARY, Rules: []api.Rule{{MTI: "0100"}, {MTI: "0200"}, {MTI: "0210", Must: []int{3, 40, 100}}}}
		for i, n := range []int{3, 40, 100} {
			d.Fields = append(d.Fields, api.FieldSpec{Number: n, Class: api.ClassN, Enc: api.ASCII, Digits: 1, LenEnc: api.ASCII, Size: 4})
			switch named / []int{1, 3, 9}[i] % 3 {
			case 1:
				d.Rules[1].Must = append(d.Rules[1].Must, n)
			case 2:
				d.Rules[1].May = append(d.Rules[1].May, n)
			}
		}
		x := compiled(t, d)
		for there := range 8 {
			var numbers []int
			content := ""
			for i, n := range []int{3, 40, 100} {
				if there>>i&1 == 1 {
					numbers = append(numbers, n)
					content += []string{"11", "212", "3123"}[i]
				}
			}
			b := "0200" + mapBytes(api.BINARY, numbers...) + content
			seen[agrees(t, x, b)]++
			seen[agrees(t, x, b+"0")]++
		}
	}
	seen.enough(t, 60, api.OK, api.DefRule, api.DefRest)
}

// TestTheGreatestSize: 9999 bytes are a message, and one more is none, whatever the bytes are.
func TestTheGreatestSize(t *testing.T) {
	d := example()
	d.Fields = []api.FieldSpec{{Number: 2, Class: api.ClassB, Enc: api.BINARY, Digits: 4, LenEnc: api.ASCII, Size: 9999}}
	d.Rules = []api.Rule{{MTI: "0200", Must: []int{2}}}
	x := compiled(t, d)
	ahead := "0200" + "4000000000000000"
	value := strings.Repeat("v", 9975)
	tellsOf(t, x, ahead+"9975"+value, told{m: of("0200", field(2, value)), spans: [][2]int{{20, 9979}}})
	for _, b := range []string{ahead + "9976" + value + "v", ahead + "9975" + value + "v", strings.Repeat("0", 10000), strings.Repeat("x", 10000), strings.Repeat("\x00", 70000)} {
		tellsOf(t, x, b, wrong(api.DefRest, 0, 9999))
	}
	tellsOf(t, x, strings.Repeat("x", 9999), wrong(api.DefMTI, 0, 0))
}

// TestLongContents: of each class as many characters as there can be, and of each the last byte wrong.
func TestLongContents(t *testing.T) {
	r := rand.New(rand.NewSource(1305))
	seen := codes{}
	for _, s := range allSpecs(2, 9900) {
		if s.Class >= api.ClassT || s.Digits != 0 && s.LenEnc != api.BCD {
			continue
		}
		x := compiled(t, one(s))
		b, _, _ := x.table.Build(of("0200", field(2, textOf(r, s.Class, 9900))))
		seen[agrees(t, x, b)]++
		seen[agrees(t, x, b[:len(b)-1]+"\x00")]++
		seen[agrees(t, x, b[:len(b)-1])]++
	}
	seen.enough(t, 5, api.OK, api.DefContent, api.DefShort)
}

// TestManyMessages: right ones of right dialects, those bytes bent, and bytes of which the rule wants others.
func TestManyMessages(t *testing.T) {
	seen := codes{}
	r := rand.New(rand.NewSource(1308))
	for range 2500 {
		d := rightDialect(r)
		if len(d.Rules) == 0 {
			continue
		}
		x := compiled(t, d)
		b, e, _ := x.table.Build(rightMessage(r, d, oneOf(r, d.Rules...)))
		if e != api.OK {
			t.Fatalf("the test made a message that does not fit: %d", e)
		}
		if e := agrees(t, x, b); e != api.OK {
			t.Errorf("13.3: Parse of a right message: %d", e)
		}
		for range 6 {
			bent := bentBytes(r, b)
			seen[agrees(t, x, bent)]++
			seen[agrees(t, x, bentBytes(r, bent))]++
		}
		all := lenient(d)
		b, _, _ = compiled(t, all).table.Build(rightMessage(r, all, oneOf(r, all.Rules...)))
		seen[agrees(t, x, b)]++
		seen[agrees(t, x, bentBytes(r, b))]++
	}
	seen.enough(t, 100, api.OK, api.DefShort, api.DefMTI, api.DefMap, api.DefUnknown, api.DefLength, api.DefContent, api.DefPad, api.DefInner, api.DefRest, api.DefRule)
}
