package grammar_test

import (
	"math/rand"
	"testing"

	"turnstile/api"
	"turnstile/grammar"
)

func checkAsks(t *testing.T, d api.Dialect) {
	t.Helper()
	for _, n := range edges {
		s, ok := grammar.Spec(d, n)
		if want, there := wantSpec(d, n); s != want || ok != there {
			t.Errorf("10.2: Spec(%d) = %v, %t, must be %v, %t", n, s, ok, want, there)
		}
	}
	for _, mti := range append(allTypes(), oddTypes...) {
		r, ok := grammar.Rule(d, mti)
		if want, there := wantRule(d, mti); !sameRule(r, want) || ok != there {
			t.Errorf("10.2: Rule(%q) = %v, %t, must be %v, %t", mti, r, ok, want, there)
		}
	}
}

func TestAsksOfExamples(t *testing.T) {
	d := example()
	if s, ok := grammar.Spec(d, 48); !ok || s != d.Fields[2] {
		t.Errorf("10.2: Spec(48) = %v, %t", s, ok)
	}
	if s, ok := grammar.Spec(d, 4); ok || s != (api.FieldSpec{}) {
		t.Errorf("10.2: Spec(4) = %v, %t", s, ok)
	}
	if r, ok := grammar.Rule(d, "0210"); !ok || !sameRule(r, api.Rule{MTI: "0210", Must: []int{3, 39, 64}}) {
		t.Errorf("10.2: Rule(0210) = %v, %t", r, ok)
	}
	if r, ok := grammar.Rule(d, "0220"); ok || !sameRule(r, api.Rule{}) {
		t.Errorf("10.2: Rule(0220) = %v, %t", r, ok)
	}
	checkAsks(t, d)
	checkAsks(t, api.Dialect{})
}

// TestAsksTakeTheFirst: of dialects that are not right, too: twice there, out of order, no field, no type.
func TestAsksTakeTheFirst(t *testing.T) {
	d := api.Dialect{
		Fields: []api.FieldSpec{{Number: 64, Size: 1}, {Number: 3, Size: 2}, {Number: 3, Size: 3}, {Size: 4}, {Number: 64, Size: 5}, {Number: -1, Size: 6}, {}},
		Rules:  []api.Rule{{MTI: "x", Must: []int{1}}, {MTI: "0200", May: []int{2}}, {MTI: "0200", May: []int{3}}, {Must: []int{4, 4, -4}, May: []int{4}}, {MTI: "x"}, {}},
	}
	checkAsks(t, d)
	if s, ok := grammar.Spec(d, 0); !ok || s.Size != 4 {
		t.Errorf("10.2: Spec(0) = %v, %t", s, ok)
	}
	if r, ok := grammar.Rule(d, ""); !ok || !sameRule(r, api.Rule{Must: []int{4, 4, -4}, May: []int{4}}) {
		t.Errorf("10.2: Rule of no type = %v, %t", r, ok)
	}
}

func TestAsksOfRandomDialects(t *testing.T) {
	r := rand.New(rand.NewSource(1002))
	for range 500 {
		d := rightDialect(r)
		checkAsks(t, d)
		checkAsks(t, bent(r, bent(r, d)))
	}
}
