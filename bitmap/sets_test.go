package bitmap_test

import (
	"slices"
	"strconv"
	"strings"
	"testing"

	"turnstile/api"
	"turnstile/bitmap"
)

// The bits that are no field's.
const bitOf1, bitOf65 = 1 << 63, 1 << 63

// someMaps are right ones and such as are not: each bit alone, all but one, and what lies between.
func someMaps() []bitmap.Map {
	const full = 1<<64 - 1
	l := []bitmap.Map{{}, {First: full, Second: full}, {First: full}, {Second: full},
		{First: bitOf1, Second: bitOf65}, {First: full &^ bitOf1, Second: full &^ bitOf65},
		{First: bitOf1 + 1<<62}, {Second: bitOf65 + 1}, {First: 1, Second: bitOf65 + 1<<62},
		{First: 0x0123456789ABCDEF, Second: 0x7EDCBA9876543210}, {First: 0xFEDCBA9876543210, Second: 0x8123456789ABCDEF}}
	for i := range 64 {
		l = append(l, bitmap.Map{First: 1 << i}, bitmap.Map{Second: 1 << i},
			bitmap.Map{First: full &^ (1 << i), Second: full &^ bitOf65}, bitmap.Map{First: full &^ bitOf1, Second: full &^ (1 << i)})
	}
	return l
}

// row is a map as 128 characters 0 and 1, that of the number 1 first: a plain second reading of the chapter.
func row(m bitmap.Map) string {
	return rowOf(m.First) + rowOf(m.Second)
}

func rowOf(half uint64) string {
	s := strconv.FormatUint(half, 2)
	return strings.Repeat("0", 64-len(s)) + s
}

// mapOf is row turned round.
func mapOf(t *testing.T, row string) bitmap.Map {
	t.Helper()
	first, e1 := strconv.ParseUint(row[:64], 2, 64)
	second, e2 := strconv.ParseUint(row[64:], 2, 64)
	if len(row) != 128 || e1 != nil || e2 != nil {
		t.Fatalf("the test's own row %q", row)
	}
	return bitmap.Map{First: first, Second: second}
}

// set is the row with another character at a number.
func set(row string, n int, c string) string { return row[:n-1] + c + row[n:] }

// fieldsOf are the numbers that a row has, but 1 and 65.
func fieldsOf(row string) []int {
	var l []int
	for i, c := range row {
		if c == '1' && i != 0 && i != 64 {
			l = append(l, i+1)
		}
	}
	return l
}

// isField is read from the chapter's words.
func isField(n int) bool { return n > 1 && n < 129 && n != 65 }

func TestOfExamples(t *testing.T) {
	m, e := bitmap.Of(2, 4, 128)
	if m != (bitmap.Map{First: 1<<62 + 1<<60, Second: 1}) || e != api.OK {
		t.Errorf("M1: Of(2, 4, 128) = %v, %d", m, e)
	}
	if l := slices.Collect(m.Numbers()); m.Len() != 3 || !slices.Equal(l, []int{2, 4, 128}) {
		t.Errorf("M3: of 2, 4, 128: Len %d, Numbers %v", m.Len(), l)
	}
	for _, c := range []struct {
		numbers []int
		want    bitmap.Map
	}{
		{nil, bitmap.Map{}},
		{[]int{}, bitmap.Map{}},
		{[]int{2}, bitmap.Map{First: 1 << 62}},
		{[]int{63, 64}, bitmap.Map{First: 3}},
		{[]int{66}, bitmap.Map{Second: 1 << 62}},
		{[]int{127, 128}, bitmap.Map{Second: 3}},
		{[]int{64, 66}, bitmap.Map{First: 1, Second: 1 << 62}},
		{[]int{128, 2, 128, 2, 2}, bitmap.Map{First: 1 << 62, Second: 1}},
	} {
		if m, e := bitmap.Of(c.numbers...); m != c.want || e != api.OK {
			t.Errorf("M1: Of(%v) = %v, %d, want %v", c.numbers, m, e, c.want)
		}
	}
}

// TestOf: each number alone, and each behind, ahead of and between fields.
func TestOf(t *testing.T) {
	none := strings.Repeat("0", 128)
	for n := -200; n <= 400; n++ {
		for _, numbers := range [][]int{{n}, {n, 3}, {3, n}, {3, n, 127}, {n, n}} {
			m, e := bitmap.Of(numbers...)
			if !isField(n) {
				if m != (bitmap.Map{}) || e != api.ErrArg {
					t.Errorf("M1: Of(%v) = %v, %d", numbers, m, e)
				}
				continue
			}
			want := none
			for _, x := range numbers {
				want = set(want, x, "1")
			}
			if row(m) != want || e != api.OK {
				t.Errorf("M1: Of(%v) = %v, %d", numbers, m, e)
			}
		}
	}
	for _, n := range edges {
		if m, e := bitmap.Of(2, n); !isField(n) && (m != bitmap.Map{} || e != api.ErrArg) {
			t.Errorf("M1: Of(2, %d) = %v, %d", n, m, e)
		}
	}
}

func TestOfAll(t *testing.T) {
	var all []int
	for n := range 129 {
		if isField(n) {
			all = append(all, n)
		}
	}
	want := bitmap.Map{First: 1<<63 - 1, Second: 1<<63 - 1}
	for _, l := range [][]int{all, slices.Concat(all, all)} {
		if m, e := bitmap.Of(l...); m != want || e != api.OK {
			t.Errorf("M1: Of all fields = %v, %d", m, e)
		}
	}
	slices.Reverse(all)
	if m, e := bitmap.Of(all...); m != want || e != api.OK || m.Len() != 126 {
		t.Errorf("M1: Of all fields, falling = %v, %d", m, e)
	}
	if m, e := bitmap.Of(append(all, 65)...); m != (bitmap.Map{}) || e != api.ErrArg {
		t.Errorf("M1: Of all fields and 65 = %v, %d", m, e)
	}
}

func TestRightAndHas(t *testing.T) {
	for _, m := range someMaps() {
		r := row(m)
		if want := r[0] == '0' && r[64] == '0'; m.Right() != want {
			t.Errorf("M1: Right of %x = %t", m, !want)
		}
		for n := -200; n <= 400; n++ {
			if want := isField(n) && r[n-1] == '1'; m.Has(n) != want {
				t.Errorf("M1: Has(%d) of %x = %t", n, m, !want)
			}
		}
		for _, n := range edges {
			if m.Has(n) && !isField(n) {
				t.Errorf("M1: Has(%d) of %x", n, m)
			}
		}
	}
}

func TestWith(t *testing.T) {
	for _, m := range someMaps() {
		r := row(m)
		right := r[0] == '0' && r[64] == '0'
		for n := -200; n <= 400; n++ {
			got, e := m.With(n)
			if !right || !isField(n) {
				if got != (bitmap.Map{}) || e != api.ErrArg {
					t.Errorf("M2: With(%d) of %x = %x, %d", n, m, got, e)
				}
			} else if row(got) != set(r, n, "1") || e != api.OK {
				t.Errorf("M2: With(%d) of %x = %x, %d", n, m, got, e)
			}
		}
		for _, n := range edges {
			if got, e := m.With(n); !isField(n) && (got != bitmap.Map{} || e != api.ErrArg) {
				t.Errorf("M2: With(%d) of %x = %x, %d", n, m, got, e)
			}
		}
	}
}

func TestWithout(t *testing.T) {
	for _, m := range someMaps() {
		r := row(m)
		for n := -200; n <= 400; n++ {
			want := r
			if isField(n) {
				want = set(r, n, "0")
			}
			if got := m.Without(n); row(got) != want {
				t.Errorf("M2: Without(%d) of %x = %x", n, m, got)
			}
		}
		for _, n := range edges {
			if got := m.Without(n); !isField(n) && got != m {
				t.Errorf("M2: Without(%d) of %x = %x", n, m, got)
			}
		}
	}
}

// TestAndLess: each pair of maps, number by number.
func TestAndLess(t *testing.T) {
	maps := someMaps()
	for _, m := range maps {
		for _, o := range maps {
			r, s := row(m), row(o)
			and, less := []byte(strings.Repeat("0", 128)), []byte(strings.Repeat("0", 128))
			for i := range 128 {
				if !isField(i+1) || r[i] == '0' {
					continue
				}
				if s[i] == '1' {
					and[i] = '1'
				} else {
					less[i] = '1'
				}
			}
			if got, want := m.And(o), mapOf(t, string(and)); got != want {
				t.Errorf("M3: %x And %x = %x", m, o, got)
			}
			if got, want := m.Less(o), mapOf(t, string(less)); got != want {
				t.Errorf("M3: %x Less %x = %x", m, o, got)
			}
		}
	}
}

func TestLenAndNumbers(t *testing.T) {
	for _, m := range someMaps() {
		want := fieldsOf(row(m))
		if m.Len() != len(want) {
			t.Errorf("M3: Len of %x = %d, want %d", m, m.Len(), len(want))
		}
		if l := slices.Collect(m.Numbers()); !slices.Equal(l, want) {
			t.Errorf("M3: Numbers of %x = %v, want %v", m, l, want)
		}
	}
}

// TestNumbersLeft: left after each of its numbers, and gone over again from its beginning.
func TestNumbersLeft(t *testing.T) {
	for _, m := range someMaps() {
		want := fieldsOf(row(m))
		all := m.Numbers()
		for stop := range want {
			var l []int
			for n := range all {
				l = append(l, n)
				if len(l) == stop+1 {
					break
				}
			}
			if !slices.Equal(l, want[:stop+1]) {
				t.Errorf("M3, P3: Numbers of %x, left after %d = %v", m, stop+1, l)
			}
		}
		if l := slices.Collect(all); !slices.Equal(l, want) {
			t.Errorf("M3, P3: Numbers of %x, gone over again = %v", m, l)
		}
	}
}

// TestNumbersNested: gone over within itself, with calls of the map between, which do not show in it.
func TestNumbersNested(t *testing.T) {
	m, _ := bitmap.Of(2, 64, 66, 128)
	all := m.Numbers()
	var l []int
	for a := range all {
		for b := range all {
			l = append(l, a, b)
		}
		m = m.Without(128)
		m, _ = m.With(100)
	}
	var want []int
	for _, a := range []int{2, 64, 66, 128} {
		for _, b := range []int{2, 64, 66, 128} {
			want = append(want, a, b)
		}
	}
	if !slices.Equal(l, want) {
		t.Errorf("M3, P3: Numbers within itself = %v", l)
	}
	if l := slices.Collect(m.Numbers()); !slices.Equal(l, []int{2, 64, 66, 100}) {
		t.Errorf("M2: With and Without within a range = %v", l)
	}
}

func TestNotRightExample(t *testing.T) {
	m := bitmap.Map{First: bitOf1 + 1<<62}
	if m.Right() || m.Has(1) || !m.Has(2) || m.Len() != 1 {
		t.Errorf("M1, M3: of a map with the bit of 1: Right %t, Has(1) %t, Has(2) %t, Len %d", m.Right(), m.Has(1), m.Has(2), m.Len())
	}
	if got, e := m.With(3); got != (bitmap.Map{}) || e != api.ErrArg {
		t.Errorf("M2: With(3) of it = %x, %d", got, e)
	}
	if got := m.Without(2); got != (bitmap.Map{First: bitOf1}) {
		t.Errorf("M2: Without(2) of it = %x", got)
	}
	if got := m.And(m); got != (bitmap.Map{First: 1 << 62}) {
		t.Errorf("M3: And of it with itself = %x", got)
	}
}
