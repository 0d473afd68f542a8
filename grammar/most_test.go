package grammar_test

import (
	"math/rand"
	"slices"
	"strings"
	"testing"

	"turnstile/api"
	"turnstile/bitmap"
	"turnstile/digits"
	"turnstile/grammar"
)

// mostIs looks whether Most answers just this.
func mostIs(t *testing.T, d api.Dialect, mti string, want int, we api.Errno) {
	t.Helper()
	if n, e := grammar.Most(d, mti); n != want || e != we {
		t.Errorf("10.6: Most(%.300v, %q) = %d, %d, must be %d, %d", d, mti, n, e, want, we)
	}
}

func TestMostOfExamples(t *testing.T) {
	mostIs(t, example(), "0200", 126, api.OK)
	mostIs(t, example(), "0220", 0, api.ErrMTI)
	mostIs(t, example(), "0210", 4+8+3+2+8, api.OK)
	mostIs(t, example(), "1200", 0, api.ErrMTI)
	mostIs(t, example(), "", 0, api.ErrMTI)
	mostIs(t, api.Dialect{}, "", 0, api.ErrMTI)
}

// TestMostOfHeads: the type and the bitmap, with no field, with one at either side of 64, in Must and in May.
func TestMostOfHeads(t *testing.T) {
	for mtiEnc, digits := range map[int]int{api.ASCII: 4, api.BCD: 2, api.EBCDIC: 4} {
		for mapEnc, half := range map[int]int{api.BINARY: 8, api.ASCII: 16, api.EBCDIC: 16} {
			d := api.Dialect{Name: "x", MTIEnc: mtiEnc, MapEnc: mapEnc, Rules: []api.Rule{{MTI: "0800"}}}
			for _, n := range allFields() {
				d.Fields = append(d.Fields, api.FieldSpec{Number: n, Class: api.ClassN, Enc: api.ASCII, Size: 1})
			}
			mostIs(t, d, "0800", digits+half, api.OK)
			for _, n := range allFields() {
				size := digits + half + 1
				if n > 64 {
					size += half
				}
				d.Rules[0] = api.Rule{MTI: "0800", Must: []int{n}}
				mostIs(t, d, "0800", size, api.OK)
				d.Rules[0] = api.Rule{MTI: "0800", May: []int{n}}
				mostIs(t, d, "0800", size, api.OK)
			}
			d.Rules[0] = api.Rule{MTI: "0800", Must: []int{2, 128}, May: []int{3, 64, 66}}
			mostIs(t, d, "0800", digits+2*half+5, api.OK)
		}
	}
}

// TestMostOfEachSpec: in all encodings, with all lengths.
func TestMostOfEachSpec(t *testing.T) {
	d := api.Dialect{Name: "x", MTIEnc: api.BCD, MapEnc: api.BINARY, Rules: []api.Rule{{MTI: "0800", May: []int{2}}}}
	asked := 0
	for class := 1; class <= 9; class++ {
		for enc := 1; enc <= 5; enc++ {
			for digits := 0; digits <= 4; digits++ {
				for lenEnc := 0; lenEnc <= 5; lenEnc++ {
					for _, size := range []int{1, 2, 3, 8, 9, 36, 37, 99, 998, 999, 9998, 9999} {
						d.Fields = []api.FieldSpec{{Number: 2, Class: class, Enc: enc, Digits: digits, LenEnc: lenEnc, Size: size}}
						if e, _ := wantRight(d); e == api.OK {
							mostIs(t, d, "0800", wantMost(d, "0800"), api.OK)
							asked++
						}
					}
				}
			}
		}
	}
	if asked < 500 {
		t.Errorf("the test had %d specs only", asked)
	}
}

// longest is the bytes of a field with as many characters as its spec lets.
func longest(s api.FieldSpec) string {
	text := strings.Repeat("1", s.Size)
	content, _ := digits.Pack(s.Enc, text)
	if s.Digits == 0 {
		return content
	}
	length, _ := digits.Prefix(s.LenEnc, s.Digits, s.Size)
	return length + content
}

// TestMostIsReached: it is what the longest message of a type has, put together of its parts.
func TestMostIsReached(t *testing.T) {
	r := rand.New(rand.NewSource(1007))
	above := 0
	for range 1000 {
		d := rightDialect(r)
		for _, rule := range d.Rules {
			named := slices.Concat(rule.Must, rule.May)
			b, _ := digits.Pack(d.MTIEnc, rule.MTI)
			m, _ := bitmap.Of(named...)
			w, _ := bitmap.Encode(d.MapEnc, m)
			all := len(b) + len(w)
			for _, s := range d.Fields {
				if slices.Contains(named, s.Number) {
					all += len(longest(s))
				}
			}
			if all > 9999 {
				above++
			}
			mostIs(t, d, rule.MTI, all, api.OK)
			mostIs(t, d, rule.MTI, wantMost(d, rule.MTI), api.OK)
		}
	}
	if above < 50 {
		t.Errorf("the test had %d types above 9999 bytes only", above)
	}
	d := full(0)
	for i := range d.Fields {
		d.Fields[i].Size = 9999
	}
	mostIs(t, d, "0100", 4+32+126*9999, api.OK)
}

// TestMostOfWrongDialects: no number is promised, but that there is a rule, or none.
func TestMostOfWrongDialects(t *testing.T) {
	r := rand.New(rand.NewSource(1008))
	for range 2000 {
		d := bent(r, bent(r, rightDialect(r)))
		for _, mti := range append(allTypes(), oddTypes...) {
			_, ok := wantRule(d, mti)
			n, e := grammar.Most(d, mti)
			if ok != (e == api.OK) || !ok && (n != 0 || e != api.ErrMTI) {
				t.Errorf("10.6: Most(%.300v, %q) = %d, %d", d, mti, n, e)
			}
		}
	}
	for _, n := range edges {
		for i := range 6 {
			d := example()
			s := &d.Fields[2]
			*[]*int{&s.Number, &s.Class, &s.Enc, &s.Digits, &s.LenEnc, &s.Size}[i] = n
			if _, e := grammar.Most(d, "0200"); e != api.OK {
				t.Errorf("10.6: Most(%.300v) = %d", d, e)
			}
		}
	}
}
