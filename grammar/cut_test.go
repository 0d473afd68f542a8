package grammar_test

import (
	"fmt"
	"math/rand"
	"testing"

	"turnstile/api"
	"turnstile/grammar"
)

func checkCut(t *testing.T, d api.Dialect, m api.Message) {
	t.Helper()
	if got, want := grammar.Cut(d, m), wantCut(d, m); !sameMessage(got, want) {
		t.Errorf("10.5: Cut(%.300v, %.300v) = %.300v, must be %.300v", d, m, got, want)
	}
}

// cutIs looks whether Cut answers just this of the example.
func cutIs(t *testing.T, m, want api.Message) {
	t.Helper()
	if got := grammar.Cut(example(), m); !sameMessage(got, want) {
		t.Errorf("10.5: Cut(%.300v) = %.300v, must be %.300v", m, got, want)
	}
}

func TestCutOfExamples(t *testing.T) {
	cutIs(t, message("1200", field(2, "4111"), field(3, "000000"), field(48, "x"), tag), message("0200", field(3, "000000"), tag))
	cutIs(t, message("0800", field(70, "301")), message("0800", field(70, "301")))
	cutIs(t, message("x", field(3, "1")), message("x", field(3, "1")))
}

func TestCutOfOrdinary(t *testing.T) {
	row := kids(48, leaf(1, "ab"), leaf(2, ""))
	cutIs(t, message("0200", field(3, "000000"), row, tag), message("0200", field(3, "000000"), row, tag))
	cutIs(t, message("1210", field(3, "000000"), field(39, "00"), row, tag), message("0210", field(3, "000000"), field(39, "00"), tag))
	cutIs(t, message("0200"), message("0200"))
	cutIs(t, message("1800"), message("0800"))
	cutIs(t, message(""), message(""))
	cutIs(t, message("0200", tag, field(3, "1"), field(3, "000000"), field(3, "111111"), field(39, "00")), message("0200", tag, field(3, "000000"), field(3, "111111")))
	cutIs(t, message("1220", field(-1, "a"), kids(3, inner(112, inner(0, leaf(1, "x")))), field(3, "")), message("0220", field(-1, "a"), kids(3, inner(112, inner(0, leaf(1, "x")))), field(3, "")))
	cutIs(t, message("0200", field(3, "00000"), field(48, "x"), field(64, "")), message("0200"))
}

// TestCutOfEachType: in either version, in one that there is not, with a rule of it and without.
func TestCutOfEachType(t *testing.T) {
	var l []string
	for n := range 10000 {
		l = append(l, fmt.Sprintf("%04d", n))
	}
	l = append(append(l, oddTypes...), "02 0", "O200", "0200 ", " 0200", "+200", "\x00200", "/200")
	some := []api.Field{field(2, "1"), field(3, "000000"), tag}
	for _, mti := range l {
		for _, version := range []int{-1, 0, 1, 2, 48, 49} {
			d := example()
			d.Version = version
			d.Rules = append(d.Rules, api.Rule{MTI: "1200", May: []int{3}}, api.Rule{MTI: "x", May: []int{64}}, api.Rule{MTI: "", Must: []int{2}})
			checkCut(t, d, message(mti, some...))
		}
	}
}

// TestCutOfEachVersion: what there is no rule of comes in the dialect's version all the same.
func TestCutOfEachVersion(t *testing.T) {
	for _, mti := range allTypes() {
		for version, want := range map[int]string{0: "0" + mti[1:], 1: "1" + mti[1:], 2: mti, -1: mti, 1 << 32: mti} {
			if m := grammar.Cut(api.Dialect{Version: version}, message(mti, field(9, "x"))); !sameMessage(m, message(want, field(9, "x"))) {
				t.Errorf("10.5: Cut(%s) in version %d = %v", mti, version, m)
			}
		}
	}
}

// TestCutEnds: what does not stay is not gone over.
func TestCutEnds(t *testing.T) {
	many := manyNodes()
	cutIs(t, message("0200", kids(2, many...), kids(3, many...), kids(48, many...), kids(64, many...)), message("0200"))
	d := example()
	d.Fields[2] = api.FieldSpec{Number: 48, Class: api.ClassT, Enc: api.BINARY, Digits: 3, LenEnc: api.ASCII, Size: 100}
	if m := grammar.Cut(d, message("0200", kids(48, many...))); !sameMessage(m, message("0200")) {
		t.Errorf("10.5: Cut of many nodes = %.200v", m)
	}
}

func TestCutOfRandomMessages(t *testing.T) {
	r := rand.New(rand.NewSource(1006))
	stayed, left := 0, 0
	for range 800 {
		d := rightDialect(r)
		if len(d.Rules) == 0 {
			continue
		}
		m := rightMessage(r, d, oneOf(r, d.Rules...))
		wrong := bent(r, d)
		for range 5 {
			checkCut(t, d, m)
			checkCut(t, wrong, m)
			n := len(grammar.Cut(d, m).Fields)
			stayed += n
			left += len(m.Fields) - n
			m = bentMessage(r, d, m)
		}
	}
	if stayed < 10000 || left < 500 {
		t.Errorf("the test had %d fields that stayed and %d that did not", stayed, left)
	}
}
