package grammar_test

import (
	"fmt"
	"math"
	"math/rand"
	"slices"
	"strings"
	"testing"

	"turnstile/api"
	"turnstile/grammar"
)

// checkRight holds Right against the second reading.
func checkRight(t *testing.T, d api.Dialect) {
	t.Helper()
	e, at := grammar.Right(d)
	if we, want := wantRight(d); e != we || at != want {
		t.Errorf("10.1: Right(%.300v) = %d, %d, must be %d, %d", d, e, at, we, want)
	}
}

// rightIs looks whether Right answers just this of the example, bent.
func rightIs(t *testing.T, e api.Errno, at int, bend func(d *api.Dialect)) {
	t.Helper()
	d := example()
	bend(&d)
	if f, n := grammar.Right(d); f != e || n != at {
		t.Errorf("10.1: Right(%.300v) = %d, %d, must be %d, %d", d, f, n, e, at)
	}
}

func TestRightOfExamples(t *testing.T) {
	rightIs(t, api.OK, 0, func(*api.Dialect) {})
	rightIs(t, api.ErrName, 0, func(d *api.Dialect) { d.Name = "D" })
	rightIs(t, api.ErrVersion, 0, func(d *api.Dialect) { d.MapEnc = api.BCD })
	rightIs(t, api.ErrClass, 1, func(d *api.Dialect) { d.Fields[1].Enc = api.BCD })
	rightIs(t, api.ErrSize, 2, func(d *api.Dialect) { d.Fields[2].Size = 1000 })
	rightIs(t, api.ErrSize, 0, func(d *api.Dialect) { d.Fields[0].LenEnc = api.ASCII })
	rightIs(t, api.ErrField, 1, func(d *api.Dialect) { d.Fields[0], d.Fields[1] = d.Fields[1], d.Fields[0] })
	rightIs(t, api.ErrRule, 1, func(d *api.Dialect) { d.Rules[0], d.Rules[1] = d.Rules[1], d.Rules[0] })
	rightIs(t, api.ErrRule, 1, func(d *api.Dialect) { d.Rules[1].MTI = "1210" })
	rightIs(t, api.ErrRule, 0, func(d *api.Dialect) { d.Rules[0].May = []int{4} })
	rightIs(t, api.ErrRule, 1, func(d *api.Dialect) { d.Rules[1].May = []int{4} })
	rightIs(t, api.ErrMAC, 0, func(d *api.Dialect) {
		d.Fields = append(d.Fields, api.FieldSpec{Number: 128, Class: api.ClassB, Enc: api.BINARY, Size: 8})
	})
	rightIs(t, api.ErrMAC, 0, func(d *api.Dialect) { d.MAC = 128 })
}

func TestRightOfNothing(t *testing.T) {
	rightIs(t, api.ErrName, 0, func(d *api.Dialect) { *d = api.Dialect{} })
	rightIs(t, api.OK, 0, func(d *api.Dialect) { d.Fields, d.Rules, d.MAC = nil, nil, 0 })
	rightIs(t, api.OK, 0, func(d *api.Dialect) { d.Fields, d.Rules, d.MAC = []api.FieldSpec{}, []api.Rule{}, 0 })
	rightIs(t, api.OK, 0, func(d *api.Dialect) { d.Rules = nil })
	rightIs(t, api.OK, 0, func(d *api.Dialect) { d.Fields, d.Rules, d.MAC = nil, []api.Rule{{MTI: "0200"}, {MTI: "0810"}}, 0 })
	rightIs(t, api.OK, 0, func(d *api.Dialect) { d.Rules[0] = api.Rule{MTI: "0200", Must: []int{}, May: []int{}} })
	rightIs(t, api.ErrMAC, 0, func(d *api.Dialect) { d.Fields, d.Rules = nil, nil })
}

func TestRightOfNames(t *testing.T) {
	for c := range 256 {
		one := string([]byte{byte(c)})
		for _, name := range []string{one, "a" + one, one + "a", "abcdefg" + one + "01234567"} {
			e := api.ErrName
			if strings.Contains("abcdefghijklmnopqrstuvwxyz0123456789-", one) {
				e = api.OK
			}
			rightIs(t, e, 0, func(d *api.Dialect) { d.Name = name })
		}
	}
	for n := range 40 {
		e := api.ErrName
		if n >= 1 && n <= 16 {
			e = api.OK
		}
		rightIs(t, e, 0, func(d *api.Dialect) { d.Name = strings.Repeat("a", n) })
	}
}

func TestRightOfHeads(t *testing.T) {
	for _, n := range edges {
		d := example()
		d.Version = n
		checkRight(t, d)
		d = example()
		d.MTIEnc = n
		checkRight(t, d)
		d = example()
		d.MapEnc = n
		checkRight(t, d)
		d = example()
		d.MAC = n
		checkRight(t, d)
	}
	rightIs(t, api.ErrRule, 0, func(d *api.Dialect) { d.Version = 1 })
	rightIs(t, api.OK, 0, func(d *api.Dialect) { d.Version, d.Rules[0].MTI, d.Rules[1].MTI = 1, "1200", "1210" })
}

// full is a dialect with all the fields and all the rules that there can be.
func full(version int) api.Dialect {
	d := api.Dialect{Name: "full", Version: version, MTIEnc: api.ASCII, MapEnc: api.ASCII}
	for _, n := range allFields() {
		d.Fields = append(d.Fields, api.FieldSpec{Number: n, Class: api.ClassN, Enc: api.ASCII, Size: 1})
	}
	for _, mti := range allTypes() {
		if mti[:1] == fmt.Sprint(version) {
			d.Rules = append(d.Rules, api.Rule{MTI: mti, Must: allFields()})
		}
	}
	return d
}

func TestRightOfMany(t *testing.T) {
	for version := range 2 {
		d := full(version)
		if e, at := grammar.Right(d); len(d.Fields) != 126 || len(d.Rules) != 21 || e != api.OK || at != 0 {
			t.Errorf("10.1: Right of all fields and rules = %d, %d", e, at)
		}
		d.Fields = append(d.Fields, d.Fields[0])
		checkRight(t, d)
	}
	for _, c := range []struct {
		fields, rules int
		e             api.Errno
		at            int
	}{{126, 0, api.ErrField, 0}, {127, 0, api.ErrMany, 0}, {0, 64, api.ErrRule, 0}, {0, 65, api.ErrMany, 0}, {127, 65, api.ErrMany, 0}, {100000, 0, api.ErrMany, 0}, {0, 100000, api.ErrMany, 0}} {
		rightIs(t, c.e, c.at, func(d *api.Dialect) {
			d.Fields, d.Rules, d.MAC = make([]api.FieldSpec, c.fields), make([]api.Rule, c.rules), 9
		})
		rightIs(t, api.ErrVersion, 0, func(d *api.Dialect) {
			d.Fields, d.Rules, d.Version = make([]api.FieldSpec, c.fields), make([]api.Rule, c.rules), 2
		})
	}
	rightIs(t, api.ErrMany, 0, func(d *api.Dialect) { d.Rules = make([]api.Rule, 65) })
	rightIs(t, api.ErrMany, 0, func(d *api.Dialect) { d.Fields = make([]api.FieldSpec, 127) })
}

// TestRightOfEachNumber: alone, behind another, ahead of another.
func TestRightOfEachNumber(t *testing.T) {
	numbers := slices.Clone(edges)
	for n := -3; n < 140; n++ {
		numbers = append(numbers, n)
	}
	for _, n := range numbers {
		s := api.FieldSpec{Number: n, Class: api.ClassN, Enc: api.ASCII, Size: 1}
		e := api.ErrField
		if slices.Contains(allFields(), n) {
			e = api.OK
		}
		rightIs(t, e, 0, func(d *api.Dialect) { d.Fields, d.Rules, d.MAC = []api.FieldSpec{s}, nil, 0 })
		for _, other := range []int{2, 3, 64, 66, 127, 128} {
			d := example()
			o := s
			o.Number = other
			d.Fields, d.Rules, d.MAC = []api.FieldSpec{s, o}, nil, 0
			checkRight(t, d)
			d.Fields = []api.FieldSpec{o, s}
			checkRight(t, d)
			d.Fields = []api.FieldSpec{o, o, s}
			checkRight(t, d)
		}
	}
}

// TestRightOfEachSpec: all classes, encodings, digits and encodings of lengths, at the edges of sizes.
func TestRightOfEachSpec(t *testing.T) {
	sizes := []int{math.MinInt, -1, 0, 1, 2, 3, 8, 9, 10, 99, 100, 999, 1000, 9998, 9999, 10000, 99999, math.MaxInt}
	d := example()
	d.Rules, d.MAC = nil, 0
	right := 0
	for class := -1; class <= 11; class++ {
		for enc := -1; enc <= 7; enc++ {
			for digits := -1; digits <= 6; digits++ {
				for lenEnc := -1; lenEnc <= 7; lenEnc++ {
					for _, size := range sizes {
						d.Fields[1] = api.FieldSpec{Number: 39, Class: class, Enc: enc, Digits: digits, LenEnc: lenEnc, Size: size}
						checkRight(t, d)
						if e, _ := grammar.Right(d); e == api.OK {
							right++
						}
					}
				}
			}
		}
	}
	if right < 500 {
		t.Errorf("the test had %d right specs only", right)
	}
	for _, n := range edges {
		for i := range 5 {
			s := api.FieldSpec{Number: 39, Class: api.ClassANS, Enc: api.ASCII, Digits: 2, LenEnc: api.BCD, Size: 99}
			*[]*int{&s.Class, &s.Enc, &s.Digits, &s.LenEnc, &s.Size}[i] = n
			d.Fields[1] = s
			checkRight(t, d)
		}
	}
}

// TestRightOfEachType: all of four digits, and others.
func TestRightOfEachType(t *testing.T) {
	d := example()
	check := func(mti string) {
		t.Helper()
		for d.Version = range 2 {
			d.Rules = []api.Rule{{MTI: mti}}
			checkRight(t, d)
		}
	}
	for n := range 10000 {
		check(fmt.Sprintf("%04d", n))
	}
	for _, mti := range append(slices.Clone(oddTypes), "020 ", " 200", "200", "0200\x00", "O200", "-200", "+200", "02000200", "/200", "\xFF200") {
		check(mti)
	}
	for _, a := range allTypes() {
		for _, b := range allTypes() {
			d.Version = int(a[0] - '0')
			d.Rules = []api.Rule{{MTI: a}, {MTI: b}}
			checkRight(t, d)
		}
	}
}

// TestRightOfRules: short lists of all kinds in Must and May.
func TestRightOfRules(t *testing.T) {
	lists := [][]int{nil, {}}
	some := []int{-3, 0, 3, 4, 39, 48, 64, 65, 1<<32 + 3}
	for _, a := range some {
		lists = append(lists, []int{a})
		for _, b := range some {
			lists = append(lists, []int{a, b})
			lists = append(lists, []int{a, b, 48}, []int{a, 39, b})
		}
	}
	d := example()
	for _, must := range lists {
		for _, may := range lists {
			d.Rules[1].Must, d.Rules[1].May = must, may
			checkRight(t, d)
		}
	}
	rightIs(t, api.OK, 0, func(d *api.Dialect) { d.Rules[1].Must, d.Rules[1].May = []int{39, 64}, []int{3, 48} })
	rightIs(t, api.ErrRule, 0, func(d *api.Dialect) { d.Rules[0].May = []int{3} })
	rightIs(t, api.ErrRule, 0, func(d *api.Dialect) { d.Rules[0].Must = []int{3, 3, 64} })
	rightIs(t, api.ErrRule, 0, func(d *api.Dialect) { d.Rules[0].May = []int{48, 48} })
	rightIs(t, api.ErrRule, 1, func(d *api.Dialect) { d.Rules[1].May = slices.Repeat([]int{48}, 100000) })
}

// TestRightOfTags: the only spec that there may be, and all that differ from it in one thing.
func TestRightOfTags(t *testing.T) {
	for _, tag := range []int{64, 128} {
		only := api.FieldSpec{Number: tag, Class: api.ClassB, Enc: api.BINARY, Size: 8}
		rightIs(t, api.OK, 0, func(d *api.Dialect) { d.Fields, d.Rules, d.MAC = []api.FieldSpec{only}, nil, tag })
		for _, other := range []api.FieldSpec{
			{Number: tag, Class: api.ClassB, Enc: api.BINARY, Size: 7},
			{Number: tag, Class: api.ClassB, Enc: api.BINARY, Size: 9},
			{Number: tag, Class: api.ClassB, Enc: api.BINARY, Size: 16},
			{Number: tag, Class: api.ClassB, Enc: api.BINARY, Size: 8, Digits: 1, LenEnc: api.ASCII},
			{Number: tag, Class: api.ClassB, Enc: api.BINARY, Size: 8, Digits: 2, LenEnc: api.BINARY},
			{Number: tag, Class: api.ClassT, Enc: api.BINARY, Size: 8, Digits: 1, LenEnc: api.BINARY},
			{Number: tag, Class: api.ClassANS, Enc: api.ASCII, Size: 8},
			{Number: tag, Class: api.ClassN, Enc: api.BCD, Size: 8},
			{Number: tag - 1, Class: api.ClassB, Enc: api.BINARY, Size: 8},
		} {
			rightIs(t, api.ErrMAC, 0, func(d *api.Dialect) { d.Fields, d.Rules, d.MAC = []api.FieldSpec{other}, nil, tag })
			rightIs(t, api.OK, 0, func(d *api.Dialect) { d.Fields, d.Rules, d.MAC = []api.FieldSpec{other}, nil, 0 })
		}
		for n := 2; n < 129; n++ {
			d := example()
			d.MAC, d.Rules = tag, nil
			behind := only
			behind.Number = n
			d.Fields = []api.FieldSpec{only, behind}
			slices.SortFunc(d.Fields, func(a, b api.FieldSpec) int { return a.Number - b.Number })
			checkRight(t, d)
			d.MAC = n
			checkRight(t, d)
		}
	}
	rightIs(t, api.OK, 0, func(d *api.Dialect) { d.MAC = 0 })
}

// TestRightTellsTheFirst: of two faults that which the chapter names first.
func TestRightTellsTheFirst(t *testing.T) {
	bends := []func(d *api.Dialect){
		func(d *api.Dialect) { d.Name = "" },
		func(d *api.Dialect) { d.Version = 2 },
		func(d *api.Dialect) { d.MTIEnc = api.BINARY },
		func(d *api.Dialect) { d.MapEnc = 0 },
		func(d *api.Dialect) { d.Fields = append(d.Fields, make([]api.FieldSpec, 126)...) },
		func(d *api.Dialect) { d.Rules = append(d.Rules, make([]api.Rule, 64)...) },
		func(d *api.Dialect) { d.Fields[0].Number = 65 },
		func(d *api.Dialect) { d.Fields[0].Class = 10 },
		func(d *api.Dialect) { d.Fields[0].Size = 0 },
		func(d *api.Dialect) { d.Fields[1].Number = 3 },
		func(d *api.Dialect) { d.Fields[1].Enc = api.BINARY },
		func(d *api.Dialect) { d.Fields[1].Digits = 5 },
		func(d *api.Dialect) { d.Fields[3].Number = 129 },
		func(d *api.Dialect) { d.Fields[3].Enc = api.ASCII },
		func(d *api.Dialect) { d.Fields[3].LenEnc = api.ASCII },
		func(d *api.Dialect) { d.Rules[0].MTI = "0900" },
		func(d *api.Dialect) { d.Rules[0].Must = []int{64, 3} },
		func(d *api.Dialect) { d.Rules[1].MTI = "0200" },
		func(d *api.Dialect) { d.Rules[1].May = []int{5} },
		func(d *api.Dialect) { d.MAC = 128 },
	}
	for _, one := range bends {
		for _, two := range bends {
			d := example()
			one(&d)
			two(&d)
			checkRight(t, d)
		}
	}
}

func TestRightOfRandomDialects(t *testing.T) {
	r := rand.New(rand.NewSource(1001))
	errors := map[api.Errno]int{}
	for range 3000 {
		d := rightDialect(r)
		if e, at := grammar.Right(d); e != api.OK || at != 0 {
			t.Errorf("10.1: Right(%.300v) = %d, %d", d, e, at)
		}
		for range 4 {
			d = bent(r, d)
			checkRight(t, d)
			e, _ := grammar.Right(d)
			errors[e]++
		}
	}
	for _, e := range []api.Errno{api.OK, api.ErrName, api.ErrVersion, api.ErrField, api.ErrClass, api.ErrSize, api.ErrRule, api.ErrMAC} {
		if errors[e] < 200 {
			t.Errorf("the test had %d answers %d only", errors[e], e)
		}
	}
}
