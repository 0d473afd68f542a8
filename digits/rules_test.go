package digits_test

import (
	"math"
	"strings"
	"testing"
	"unsafe"

	"turnstile/api"
	"turnstile/digits"
)

// numbers are the edges of all arguments that are numbers.
var numbers = []int{math.MinInt, math.MinInt + 1, -256, -5, -1, 0, 1, 2, 3, 4, 5, 6, 7, 18, 19, 255, 256, 1 << 31, 1 << 62, math.MaxInt - 1, math.MaxInt}

// someTexts are right ones and wrong ones, and such as no encoding has.
var someTexts = []string{"", "0", "=", "12", "123", "\x00", "\xFF", "\x0F\xF0", "\x12\x3F", "A1 [", "\xC3\xA9", "\xF0\xF7", strings.Repeat("9", 19), strings.Repeat("\xF9", 5000)}

// TestEveryCallAnswers: no call panics, and beside an error there is nothing but the place, which lies within what was read.
func TestEveryCallAnswers(t *testing.T) {
	for _, s := range someTexts {
		if n, e := digits.Number(s); e != api.OK && n != 0 {
			t.Errorf("P2: Number(%q) = %d, %d", s, n, e)
		}
		if b, e, at := digits.Unhex(s); e != api.OK && b != "" || at < 0 || at > len(s) {
			t.Errorf("P2: Unhex(%q) = %x, %d, %d", s, b, e, at)
		}
		digits.Hex(s)
		for _, enc := range numbers {
			if b, e := digits.Pack(enc, s); e != api.OK && b != "" {
				t.Errorf("P2: Pack(%d, %q) = %x, %d", enc, s, b, e)
			}
			for _, n := range numbers {
				if out, e, at := digits.Unpack(enc, s, n); e != api.OK && out != "" || at < 0 || at > len(s) {
					t.Errorf("P2: Unpack(%d, %x, %d) = %q, %d, %d", enc, s, n, out, e, at)
				}
				if got, e, at := digits.Length(enc, n, s); e != api.OK && got != 0 || at < 0 || at > len(s) {
					t.Errorf("P2: Length(%d, %d, %x) = %d, %d, %d", enc, n, s, got, e, at)
				}
			}
		}
	}
	for _, a := range numbers {
		for _, b := range numbers {
			digits.Width(a, b)
			if s, e := digits.Write(a, b); e != api.OK && s != "" {
				t.Errorf("P2: Write(%d, %d) = %q, %d", a, b, s, e)
			}
			for _, c := range numbers {
				if s, e := digits.Prefix(a, b, c); e != api.OK && s != "" {
					t.Errorf("P2: Prefix(%d, %d, %d) = %x, %d", a, b, c, s, e)
				}
				if n := digits.Count(a, b, c); n < 0 || n > max(c, 0) {
					t.Errorf("1.9: Count(%d, %d, %d) = %d", a, b, c, n)
				}
			}
		}
	}
}

// TestAnswersAreNewMemory: what is answered stands elsewhere than what was handed in.
func TestAnswersAreNewMemory(t *testing.T) {
	s := strings.Clone("1234567890")
	for _, enc := range encodings {
		b, _ := digits.Pack(enc, s)
		if within(b, s) {
			t.Errorf("P3: Pack(%d) answers what it was given", enc)
		}
		if out, e, _ := digits.Unpack(enc, b, 10); e != api.OK || within(out, b) {
			t.Errorf("P3: Unpack(%d) answers what it was given, or %d", enc, e)
		}
	}
}

// within tells whether a begins in the memory of b.
func within(a, b string) bool {
	start, first := uintptr(unsafe.Pointer(unsafe.StringData(a))), uintptr(unsafe.Pointer(unsafe.StringData(b)))
	return first <= start && start < first+uintptr(len(b))
}
