package seal_test

import (
	"math/rand"
	"strings"
	"testing"

	"turnstile/api"
	"turnstile/seal"
)

func TestPadExamples(t *testing.T) {
	for _, c := range []struct {
		method  int
		s, want string
	}{
		{1, "abc", "abc\x00\x00\x00\x00\x00"},
		{2, "abc", "abc\x80\x00\x00\x00\x00"},
		{1, "", noughts},
		{2, "", "\x80\x00\x00\x00\x00\x00\x00\x00"},
		{1, "1234567", "1234567\x00"},
		{2, "1234567", "1234567\x80"},
		{1, "12345678", "12345678"},
		{2, "12345678", "12345678\x80\x00\x00\x00\x00\x00\x00\x00"},
		{1, "123456789", "123456789\x00\x00\x00\x00\x00\x00\x00"},
		{1, noughts, noughts},
		{2, "\x80", "\x80\x80\x00\x00\x00\x00\x00\x00"},
	} {
		if s, e := seal.Pad(c.method, c.s); s != c.want || e != api.OK {
			t.Errorf("4.1: Pad(%d, %x) = %x, %d, want %x", c.method, c.s, s, e, c.want)
		}
	}
}

func TestPadOfEachLength(t *testing.T) {
	r := rand.New(rand.NewSource(41))
	for n := range 300 {
		for _, text := range []string{randomText(r, n), strings.Repeat("\x00", n), strings.Repeat("\x80", n)} {
			for _, method := range []int{1, 2} {
				if s, e := seal.Pad(method, text); s != libraryFilled(method, text) || e != api.OK {
					t.Errorf("4.1: Pad(%d, %x) = %x, %d", method, text, s, e)
				}
			}
		}
	}
}

func TestPadKnowsTwoMethods(t *testing.T) {
	for _, method := range numbers() {
		if method == 1 || method == 2 {
			continue
		}
		for _, text := range []string{"", "abc", "12345678"} {
			if s, e := seal.Pad(method, text); s != "" || e != api.ErrArg {
				t.Errorf("4.1: Pad(%d, %q) = %x, %d, want ErrArg", method, text, s, e)
			}
		}
	}
}

func TestSame(t *testing.T) {
	texts := []string{"", "\x00", "\x00\x00", "a", "b", "A", "ab", "ba", "abc", "abd", "xbc", "a\x00", "\x00a", "12345678", "12345679", "92345678", "\xFF", "\x80"}
	for i, a := range texts {
		for j, b := range texts {
			if got := seal.Same(a, strings.Clone(b)); got != (i == j) {
				t.Errorf("4.3: Same(%q, %q) = %v", a, b, got)
			}
		}
	}
}

// TestSameAsksEachBit: one bit makes another text, wherever it stands; so do two that are alike.
func TestSameAsksEachBit(t *testing.T) {
	r := rand.New(rand.NewSource(43))
	for n := range 20 {
		a := randomText(r, n)
		for bit := range 8 * n {
			b := []byte(a)
			b[bit/8] ^= 1 << (bit % 8)
			if seal.Same(a, string(b)) || seal.Same(string(b), a) {
				t.Errorf("4.3: Same(%x, %x)", a, b)
			}
			b[(bit/8+1)%n] ^= 1 << (bit % 8)
			if n > 1 && seal.Same(a, string(b)) {
				t.Errorf("4.3: Same(%x, %x)", a, b)
			}
		}
		if seal.Same(a, a+"\x00") || seal.Same(a+"\x00", a) {
			t.Errorf("4.3: Same of %x and one byte more", a)
		}
	}
}
