package grammar_test

import (
	"math"
	"math/rand"
	"slices"
	"testing"

	"turnstile/api"
	"turnstile/grammar"
)

func checkFits(t *testing.T, d api.Dialect, m api.Message) {
	t.Helper()
	e, n := grammar.Fits(d, m)
	if we, want := wantFits(d, m); e != we || n != want {
		t.Errorf("10.4: Fits(%.300v, %.300v) = %d, %d, must be %d, %d", d, m, e, n, we, want)
	}
}

// fitsIs looks whether Fits answers just this of the example.
func fitsIs(t *testing.T, e api.Errno, n int, mti string, l ...api.Field) {
	t.Helper()
	if f, got := grammar.Fits(example(), message(mti, l...)); f != e || got != n {
		t.Errorf("10.4: Fits(%s, %.300v) = %d, %d, must be %d, %d", mti, l, f, got, e, n)
	}
}

var tag = field(64, "8 bytes.")

func TestFitsOfExamples(t *testing.T) {
	fitsIs(t, api.OK, 0, "0200", field(3, "000000"), tag)
	fitsIs(t, api.ErrMust, 64, "0200", field(3, "000000"))
	fitsIs(t, api.ErrMay, 39, "0200", field(3, "000000"), field(39, "00"), tag)
	fitsIs(t, api.ErrField, 4, "0200", field(3, "000000"), field(4, "1"), tag)
	fitsIs(t, api.ErrValue, 3, "0200", field(3, "00000"), tag)
	fitsIs(t, api.ErrField, 3, "0200", tag, field(3, "000000"))
	fitsIs(t, api.ErrMTI, 0, "0800")
}

func TestFitsOfOrdinary(t *testing.T) {
	fitsIs(t, api.OK, 0, "0200", field(3, "000000"), kids(48, leaf(1, "ab")), tag)
	fitsIs(t, api.OK, 0, "0210", field(3, "000000"), field(39, "00"), tag)
	fitsIs(t, api.ErrMust, 39, "0210", field(3, "000000"), tag)
	fitsIs(t, api.ErrMay, 48, "0210", field(3, "000000"), field(39, "00"), kids(48, leaf(1, "ab")), tag)
	fitsIs(t, api.ErrValue, 48, "0200", field(3, "000000"), kids(48), tag)
	fitsIs(t, api.ErrValue, 64, "0200", field(3, "000000"), field(64, "7 bytes"))
	fitsIs(t, api.ErrMTI, 0, "1200", field(3, "000000"), tag)
	fitsIs(t, api.ErrMTI, 0, "", field(3, "000000"), tag)
	fitsIs(t, api.ErrMust, 3, "0200")
}

// TestFitsTellsTheFirst: the type, then the order, then the lowest number; of one number the field, the rule, the value.
func TestFitsTellsTheFirst(t *testing.T) {
	fitsIs(t, api.ErrMTI, 0, "0220", tag, field(3, "x"))
	fitsIs(t, api.ErrField, 3, "0200", field(3, "x"), field(3, "000000"), field(2, ""))
	fitsIs(t, api.ErrField, 2, "0200", field(3, "x"), field(2, "000000"), field(1, ""))
	fitsIs(t, api.ErrField, 3, "0200", field(4, ""), field(3, ""), field(5, ""))
	fitsIs(t, api.ErrField, 64, "0200", field(3, "x"), tag, tag)
	fitsIs(t, api.ErrField, 65, "0200", field(3, "000000"), tag, field(65, ""))
	fitsIs(t, api.ErrMust, 3, "0200", field(4, ""), field(39, ""))
	fitsIs(t, api.ErrField, 2, "0200", field(2, ""), field(39, ""))
	fitsIs(t, api.ErrField, -4, "0200", field(-4, ""), field(3, "x"))
	fitsIs(t, api.ErrField, math.MinInt, "0200", field(math.MinInt, ""), field(math.MaxInt, ""))
	fitsIs(t, api.ErrMust, 64, "0200", field(3, "000000"), field(math.MaxInt, ""))
	fitsIs(t, api.ErrMay, 39, "0200", field(3, "000000"), field(39, "-"))
	fitsIs(t, api.ErrMust, 39, "0210", field(3, "000000"), field(48, ""), tag)
	fitsIs(t, api.ErrValue, 3, "0210", field(3, "00000x"), tag)
	fitsIs(t, api.ErrField, 4, "0210", field(3, "000000"), field(4, ""), tag)
}

// TestFitsOfEachPart: all messages of up to four fields, right and wrong ones, in all orders.
func TestFitsOfEachPart(t *testing.T) {
	some := []api.Field{field(3, "000000"), field(3, "0"), field(4, "1"), field(39, "00"), field(39, "-"), kids(48, leaf(1, "ab")), field(48, "x"), tag, field(64, "")}
	lists := [][]api.Field{nil}
	for range 4 {
		for _, l := range lists {
			for _, f := range some {
				lists = append(lists, append(slices.Clone(l), f))
			}
		}
		if len(lists) > 20000 {
			break
		}
	}
	d := example()
	for _, l := range lists {
		for _, mti := range []string{"0200", "0210", "0220"} {
			checkFits(t, d, message(mti, l...))
		}
	}
}

// TestFitsOfWrongDialects: numbers that do not rise, that stand twice or in both lists, that no spec has; specs that stand twice.
func TestFitsOfWrongDialects(t *testing.T) {
	d := api.Dialect{
		Version: 9,
		Fields:  []api.FieldSpec{{Number: 64, Class: api.ClassB, Size: 8}, {Number: 3, Class: api.ClassN, Size: 6}, {Number: 3, Class: api.ClassA, Size: 1}, {Number: 0, Class: api.ClassN, Size: 1}, {Number: -5, Class: api.ClassN, Digits: -1, Size: 99999}, {Number: 7, Class: 77, Size: 1}, {Number: 1 << 40, Class: api.ClassX, Enc: 88, Size: 2}},
		Rules:   []api.Rule{{MTI: "x", Must: []int{64, 3, 64, -5, 3}, May: []int{7, 3, 0, 1 << 40}}, {MTI: "x"}, {MTI: "", May: []int{9}}, {MTI: "y", Must: []int{9, 8}}},
	}
	some := []api.Field{field(-5, "12345678901234567890"), field(0, "1"), field(3, "000000"), field(3, "a"), field(7, "1"), field(8, ""), field(9, ""), tag, field(1<<40, "C1"), field(1<<40, "C")}
	for bits := range 1 << len(some) {
		var l []api.Field
		for i, f := range some {
			if bits>>i&1 == 1 {
				l = append(l, f)
			}
		}
		for _, mti := range []string{"x", "y", "", "z"} {
			checkFits(t, d, message(mti, l...))
		}
	}
	for _, c := range []struct {
		e api.Errno
		n int
		m api.Message
	}{
		{api.OK, 0, message("x", some[0], some[1], some[2], tag, field(1<<40, "D7"))},
		{api.ErrMust, -5, message("x", some[1], some[2], tag)},
		{api.ErrValue, 3, message("x", some[0], field(3, "a"), tag)},
		{api.ErrMust, 8, message("y")},
		{api.ErrField, 8, message("y", field(8, ""))},
		{api.ErrField, 9, message("", field(9, ""))},
		{api.OK, 0, message("")},
	} {
		if e, n := grammar.Fits(d, c.m); e != c.e || n != c.n {
			t.Errorf("10.4: Fits(%v) = %d, %d, must be %d, %d", c.m, e, n, c.e, c.n)
		}
	}
}

func TestFitsEnds(t *testing.T) {
	fitsIs(t, api.ErrValue, 48, "0200", field(3, "000000"), kids(48, manyNodes()...), tag)
	var l []api.Field
	for n := range 100000 {
		l = append(l, field(n, ""))
	}
	fitsIs(t, api.ErrField, 0, "0200", l...)
	fitsIs(t, api.ErrField, 7, "0200", append(l, field(7, ""))...)
}

func TestFitsOfRandomMessages(t *testing.T) {
	r := rand.New(rand.NewSource(1005))
	errors := map[api.Errno]int{}
	for range 1000 {
		d := rightDialect(r)
		if len(d.Rules) == 0 {
			continue
		}
		m := rightMessage(r, d, oneOf(r, d.Rules...))
		wrong := bent(r, d)
		for range 5 {
			checkFits(t, d, m)
			checkFits(t, wrong, m)
			e, _ := grammar.Fits(d, m)
			errors[e]++
			m = bentMessage(r, d, m)
		}
	}
	for _, e := range []api.Errno{api.OK, api.ErrMTI, api.ErrField, api.ErrMay, api.ErrValue, api.ErrMust} {
		if errors[e] < 50 {
			t.Errorf("the test had %d answers %d only", errors[e], e)
		}
	}
}
