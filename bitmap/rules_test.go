package bitmap_test

import (
	"math"
	"slices"
	"strings"
	"testing"

	"turnstile/api"
	"turnstile/bitmap"
)

// edges are numbers at which an argument may go wrong.
var edges = []int{math.MinInt, math.MinInt + 1, -1 << 32, -256, -128, -65, -64, -2, -1, 0, 1, 2, 3, 4, 5, 6, 7, 63, 64, 65, 66, 67, 127, 128, 129, 130, 192, 193, 256, 257, 258, 1 << 31, 1<<32 + 1, 1<<32 + 2, math.MaxInt - 1, math.MaxInt}

// TestEveryCallAnswers: no call panics, and beside an error there is nothing but the place, which lies within what was read.
func TestEveryCallAnswers(t *testing.T) {
	texts := []string{"", "0", "\x80", "C0", strings.Repeat("\xFF", 100), strings.Repeat("F", 100), strings.Repeat("\xC6", 100), strings.Repeat("\xC3\xA9", 20), strings.Repeat("0", 16)}
	for _, n := range edges {
		for _, b := range texts {
			m, e, at := bitmap.Decode(n, b)
			if e != api.OK && m != (bitmap.Map{}) || at < 0 || at > len(b) {
				t.Errorf("P2: Decode(%d, %x) = %x, %d, %d", n, b, m, e, at)
			}
		}
		for _, m := range someMaps() {
			if s, e := bitmap.Encode(n, m); e != api.OK && s != "" {
				t.Errorf("P2: Encode(%d, %x) = %x, %d", n, m, s, e)
			}
			if got, e := m.With(n); e != api.OK && got != (bitmap.Map{}) {
				t.Errorf("P2: With(%d) of %x = %x, %d", n, m, got, e)
			}
			m.Without(n)
			m.Has(n)
		}
		if m, e := bitmap.Of(128, n, 2); e != api.OK && m != (bitmap.Map{}) {
			t.Errorf("P2: Of(128, %d, 2) = %x, %d", n, m, e)
		}
	}
}

// TestOfLeavesItsNumbers: the list that is handed in, and what stands behind it, stay as they are.
func TestOfLeavesItsNumbers(t *testing.T) {
	l := []int{128, 2, 66, 2, 1, 65}
	before := slices.Clone(l)
	bitmap.Of(l[:4]...)
	bitmap.Of(l...)
	if !slices.Equal(l, before) {
		t.Errorf("P3: Of writes into its numbers: %v", l)
	}
}

// TestSameAgain: the same arguments give the same answers, whatever was asked between.
func TestSameAgain(t *testing.T) {
	m, _ := bitmap.Of(2, 70)
	s, _ := bitmap.Encode(api.ASCII, m)
	bitmap.Encode(api.ASCII, bitmap.Map{First: 1<<63 - 1})
	bitmap.Decode(api.EBCDIC, strings.Repeat("\xF9", 40))
	if again, _ := bitmap.Encode(api.ASCII, m); again != s {
		t.Errorf("P4: Encode once more = %q, first %q", again, s)
	}
}
