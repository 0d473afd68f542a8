package grammar_test

import (
	"math/rand"
	"slices"
	"testing"

	"turnstile/api"
	"turnstile/grammar"
)

// What follows (10.7), asked of the package alone.

// wholeMessage is one as chapter 11 says, of fields that a dialect may or may not have.
func wholeMessage(r *rand.Rand, d api.Dialect) api.Message {
	m := api.Message{MTI: oneOf(r, allTypes()...)}
	for _, n := range somePart(r, allFields(), oneOf(r, 1, 3, 10)) {
		s, ok := grammar.Spec(d, n)
		if !ok || r.Intn(10) == 0 {
			s = rightSpec(r, n)
		}
		m.Fields = append(m.Fields, rightField(r, s))
	}
	return m
}

func TestWhatCutLeavesFits(t *testing.T) {
	r := rand.New(rand.NewSource(1009))
	seen := map[api.Errno]int{}
	for range 2500 {
		d := rightDialect(r)
		cut := grammar.Cut(d, wholeMessage(r, d))
		e, n := grammar.Fits(d, cut)
		seen[e]++
		if e != api.OK && e != api.ErrMTI && e != api.ErrMust {
			t.Errorf("10.7: Fits(%.300v, %.300v) = %d, %d behind Cut", d, cut, e, n)
		}
	}
	if seen[api.OK] < 100 || seen[api.ErrMTI] < 100 || seen[api.ErrMust] < 100 {
		t.Errorf("the test had too few of some answers: %v", seen)
	}
}

func TestCutOfWhatFits(t *testing.T) {
	r := rand.New(rand.NewSource(1010))
	fits := 0
	for range 1000 {
		d := rightDialect(r)
		for _, rule := range d.Rules {
			m := rightMessage(r, d, rule)
			if e, _ := grammar.Fits(d, m); e != api.OK {
				continue
			}
			fits++
			if cut := grammar.Cut(d, m); !sameMessage(cut, m) {
				t.Errorf("10.7: Cut(%.300v, %.300v) = %.300v, though it fits", d, m, cut)
			}
		}
	}
	if fits < 2000 {
		t.Errorf("the test had %d messages that fit only", fits)
	}
}

func TestCutAgain(t *testing.T) {
	r := rand.New(rand.NewSource(1011))
	for range 2000 {
		d := rightDialect(r)
		m := bentMessage(r, d, wholeMessage(r, d))
		once := grammar.Cut(d, m)
		if twice := grammar.Cut(d, once); !sameMessage(once, twice) {
			t.Errorf("10.7: Cut(%.300v, %.300v) = %.300v, and again %.300v", d, m, once, twice)
		}
	}
}

func TestFitsWithoutAField(t *testing.T) {
	r := rand.New(rand.NewSource(1012))
	may, must := 0, 0
	for range 1000 {
		d := rightDialect(r)
		if len(d.Rules) == 0 {
			continue
		}
		rule := oneOf(r, d.Rules...)
		m := rightMessage(r, d, rule)
		if e, _ := grammar.Fits(d, m); e != api.OK {
			continue
		}
		for i, f := range m.Fields {
			e, n := grammar.Fits(d, withoutField(m, i))
			if slices.Contains(rule.Must, f.Number) {
				must++
				if e != api.ErrMust || n != f.Number {
					t.Errorf("10.7: without %d, which must be there, Fits = %d, %d", f.Number, e, n)
				}
				continue
			}
			may++
			if e != api.OK || n != 0 {
				t.Errorf("10.7: without %d, which may be there, Fits = %d, %d", f.Number, e, n)
			}
		}
	}
	if may < 1000 || must < 1000 {
		t.Errorf("the test left out %d and %d fields only", may, must)
	}
}

// TestFitsLooksAtNoEncoding: nor does Cut.
func TestFitsLooksAtNoEncoding(t *testing.T) {
	r := rand.New(rand.NewSource(1013))
	for range 2000 {
		d := rightDialect(r)
		if len(d.Rules) == 0 {
			continue
		}
		m := rightMessage(r, d, oneOf(r, d.Rules...))
		if r.Intn(2) == 0 {
			m = bentMessage(r, d, m)
		}
		other := clone(d)
		other.MTIEnc, other.MapEnc, other.Name, other.MAC = oneOf(r, edges...), oneOf(r, edges...), "", oneOf(r, edges...)
		for i := range other.Fields {
			other.Fields[i].Enc, other.Fields[i].LenEnc = oneOf(r, edges...), oneOf(r, edges...)
		}
		e, n := grammar.Fits(d, m)
		if f, o := grammar.Fits(other, m); e != f || n != o {
			t.Errorf("10.7: Fits(%.300v, %.300v) = %d, %d, in other encodings %d, %d", d, m, e, n, f, o)
		}
		if !sameMessage(grammar.Cut(d, m), grammar.Cut(other, m)) {
			t.Errorf("10.7: Cut(%.300v, %.300v) is another one in other encodings", d, m)
		}
	}
}
