package grammar_test

import (
	"math"
	"math/rand"
	"slices"
	"strings"
	"testing"

	"turnstile/api"
	"turnstile/grammar"
	"turnstile/tlv"
)

func checkValue(t *testing.T, s api.FieldSpec, f api.Field) {
	t.Helper()
	if got, want := grammar.Value(s, f), wantValue(s, f); got != want {
		t.Errorf("10.3: Value(%+v, %.200v) = %t, must be %t", s, f, got, want)
	}
}

// valueIs looks whether Value answers just this.
func valueIs(t *testing.T, want bool, s api.FieldSpec, f api.Field) {
	t.Helper()
	if got := grammar.Value(s, f); got != want {
		t.Errorf("10.3: Value(%+v, %.200v) = %t", s, f, got)
	}
}

func TestValueOfExamples(t *testing.T) {
	d := example()
	valueIs(t, true, d.Fields[0], field(3, "000000"))
	valueIs(t, false, d.Fields[0], field(3, "00000"))
	valueIs(t, false, d.Fields[0], api.Field{Number: 3, Value: "000000", Kids: []api.Node{leaf(1, "ab")}})
	valueIs(t, false, d.Fields[0], kids(3, leaf(1, "ab")))
	valueIs(t, false, d.Fields[2], kids(48))
	valueIs(t, false, d.Fields[2], field(48, "x"))
	valueIs(t, false, d.Fields[2], field(48, "0102ab"))
	valueIs(t, false, d.Fields[2], api.Field{Number: 48, Value: "x", Kids: []api.Node{leaf(1, "ab")}})
	valueIs(t, true, d.Fields[2], kids(48, leaf(1, "ab")))
	valueIs(t, true, d.Fields[3], field(64, "\x00\xFF\x80\x7F    "))
}

// TestValueOfEachByte: of all classes, alone, first, in the middle, last.
func TestValueOfEachByte(t *testing.T) {
	for class := -1; class <= 11; class++ {
		for c := range 256 {
			one := string([]byte{byte(c)})
			for _, text := range []string{one, one + one, one + "1", "1" + one, "C" + one, "D" + one, "A" + one, one + "Z", one + "12", "D1" + one, "C" + one + "2", "1" + one + "2", "a" + one + " "} {
				for _, digits := range []int{0, 1} {
					checkValue(t, api.FieldSpec{Class: class, Digits: digits, Size: len(text)}, field(2, text))
				}
			}
		}
	}
}

// TestValueCountsCharacters: how many bytes each class takes alone (X: behind its first).
func TestValueCountsCharacters(t *testing.T) {
	for class, want := range map[int]int{api.ClassN: 10, api.ClassA: 53, api.ClassAN: 63, api.ClassANS: 95, api.ClassB: 256, api.ClassZ: 11, api.ClassX: 10, api.ClassT: 0, api.ClassS: 0, 0: 0, 10: 0} {
		ahead := ""
		if class == api.ClassX {
			ahead = "C"
		}
		n := 0
		for c := range 256 {
			if grammar.Value(api.FieldSpec{Class: class, Size: len(ahead) + 1}, field(2, ahead+string([]byte{byte(c)}))) {
				n++
			}
		}
		if n != want {
			t.Errorf("10.3: class %d has %d characters, must be %d", class, n, want)
		}
	}
}

// TestValueOfSizes: any Digits but 0 mean the same, and any Size may be asked.
func TestValueOfSizes(t *testing.T) {
	text := map[int]string{1: "1", 2: "a", 3: "a", 4: "!", 5: "\xFF", 6: "=", 7: "1"}
	for class := 1; class <= 7; class++ {
		for n := range 12 {
			value := strings.Repeat(text[class], n)
			if class == api.ClassX && n > 0 {
				value = "C" + value[1:]
			}
			for _, size := range append(slices.Clone(edges), 11, 12, 13) {
				for _, digits := range edges {
					checkValue(t, api.FieldSpec{Class: class, Digits: digits, Size: size}, field(2, value))
				}
			}
		}
	}
	for _, n := range []int{9998, 9999, 10000, 100000} {
		for _, size := range []int{n - 1, n, n + 1} {
			for _, digits := range []int{0, 4} {
				checkValue(t, api.FieldSpec{Class: api.ClassN, Digits: digits, Size: size}, field(2, strings.Repeat("7", n)))
			}
		}
	}
	valueIs(t, false, api.FieldSpec{Class: api.ClassX, Size: 1}, field(2, "C"))
	valueIs(t, false, api.FieldSpec{Class: api.ClassX, Digits: 1, Size: 9}, field(2, "C"))
	valueIs(t, true, api.FieldSpec{Class: api.ClassX, Digits: 1, Size: 9}, field(2, "C1"))
	valueIs(t, false, api.FieldSpec{Class: api.ClassB}, field(2, ""))
	valueIs(t, false, api.FieldSpec{Class: api.ClassB, Digits: 1, Size: 9}, field(2, ""))
}

// TestValueLooksAtNoMore: numbers and encodings count for nothing.
func TestValueLooksAtNoMore(t *testing.T) {
	r := rand.New(rand.NewSource(1003))
	for range 2000 {
		s := rightSpec(r, 2)
		f := rightField(r, s)
		if r.Intn(2) == 0 {
			bendField(r, []api.Field{f})
		}
		want := grammar.Value(s, f)
		for _, n := range edges {
			s.Number, s.Enc, s.LenEnc, f.Number = n, oneOf(r, edges...), oneOf(r, edges...), oneOf(r, edges...)
			if grammar.Value(s, f) != want {
				t.Errorf("10.3: Value looks at a number or an encoding: %+v, %.200v", s, f)
			}
		}
	}
}

// TestValueOfKids: at all sizes around that of the bytes.
func TestValueOfKids(t *testing.T) {
	long := strings.Repeat("v", 200)
	lists := [][]api.Node{
		nil, {}, {leaf(90, "")}, {leaf(90, "abc")}, {leaf(90, long)}, {inner(112, leaf(90, "x"))}, {inner(112)}, {leaf(40706, "x"), leaf(90, "y")},
		{leaf(0, "")}, {leaf(31, "")}, {leaf(112, "x")}, {inner(90, leaf(90, ""))}, {inner(1, leaf(1, ""))},
		{leaf(1, "ab")}, {leaf(1, "ab"), leaf(99, "")}, {leaf(100, "")}, {leaf(-1, "")}, {leaf(1, "\x00")}, {leaf(1, long[:99])}, {leaf(1, long[:100])},
		slices.Repeat([]api.Node{leaf(1, "")}, 500), slices.Repeat([]api.Node{leaf(1, "")}, 501), slices.Repeat([]api.Node{leaf(1, long[:99])}, 98), slices.Repeat([]api.Node{leaf(1, long)}, 90),
	}
	deep := []api.Node{leaf(90, "")}
	for range 10 {
		deep = []api.Node{inner(112, deep...)}
		lists = append(lists, deep)
	}
	for _, l := range lists {
		b, _ := tlv.Build(l)
		sub, _ := tlv.BuildSub(l)
		for _, size := range []int{math.MinInt, -1, 0, 1, 2, len(b) - 1, len(b), len(b) + 1, len(sub) - 1, len(sub), len(sub) + 1, 9999, math.MaxInt} {
			for _, digits := range []int{-1, 0, 1, 4, 9} {
				for class := -1; class <= 11; class++ {
					for _, value := range []string{"", "x", "1"} {
						checkValue(t, api.FieldSpec{Class: class, Digits: digits, Size: size}, api.Field{Number: 55, Value: value, Kids: l})
					}
				}
			}
		}
	}
	valueIs(t, true, api.FieldSpec{Class: api.ClassT, Size: 5}, kids(55, leaf(90, "abc")))
	valueIs(t, false, api.FieldSpec{Class: api.ClassT, Size: 6}, kids(55, leaf(90, "abc")))
	valueIs(t, true, api.FieldSpec{Class: api.ClassT, Digits: 1, Size: 6}, kids(55, leaf(90, "abc")))
	valueIs(t, true, api.FieldSpec{Class: api.ClassS, Size: 7}, kids(48, leaf(90, "abc")))
	valueIs(t, true, api.FieldSpec{Class: api.ClassN, Size: 1}, api.Field{Value: "1", Kids: []api.Node{}})
}

// manyNodes are more than anyone could count: lists that stand in many places.
func manyNodes() []api.Node {
	l := slices.Repeat([]api.Node{leaf(90, "")}, 300)
	for range 7 {
		l = slices.Repeat([]api.Node{inner(112, l...)}, 300)
	}
	return l
}

// TestValueEnds: Kids are not gone over beyond what Build asks.
func TestValueEnds(t *testing.T) {
	for class := -1; class <= 11; class++ {
		valueIs(t, false, api.FieldSpec{Class: class, Digits: 1, Size: 9999}, kids(55, manyNodes()...))
		valueIs(t, false, api.FieldSpec{Class: class, Digits: 1, Size: 9999}, api.Field{Value: "1", Kids: manyNodes()})
	}
}

func TestValueOfRandomFields(t *testing.T) {
	r := rand.New(rand.NewSource(1004))
	taken := 0
	for range 40000 {
		s := rightSpec(r, 2)
		f := []api.Field{rightField(r, s)}
		checkValue(t, s, f[0])
		if grammar.Value(s, f[0]) {
			taken++
		}
		bendField(r, f)
		checkValue(t, s, f[0])
	}
	if taken < 36000 {
		t.Errorf("the test had %d right values only", taken)
	}
}
