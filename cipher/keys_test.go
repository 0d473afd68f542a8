package cipher_test

import (
	"math/rand"
	"strings"
	"testing"

	"turnstile/api"
	"turnstile/cipher"
)

var weakKeys = []string{
	"\x01\x01\x01\x01\x01\x01\x01\x01",
	"\xFE\xFE\xFE\xFE\xFE\xFE\xFE\xFE",
	"\xE0\xE0\xE0\xE0\xF1\xF1\xF1\xF1",
	"\x1F\x1F\x1F\x1F\x0E\x0E\x0E\x0E",
}

// ones is how many a byte has, counted one by one.
func ones(c byte) int {
	n := 0
	for ; c != 0; c /= 2 {
		n += int(c % 2)
	}
	return n
}

func TestOddOfEachByte(t *testing.T) {
	all := make([]byte, 256)
	for i := range all {
		all[i] = byte(i)
		checkOdd(t, string(all[i:i+1]))
	}
	checkOdd(t, string(all))
	if s := cipher.Odd("\x00\x01\x02\xFF"); s != "\x01\x01\x02\xFE" {
		t.Errorf("3.4: Odd of 0, 1, 2, 255 = %x", s)
	}
}

func TestOddOfAnyText(t *testing.T) {
	r := rand.New(rand.NewSource(34))
	for n := range 60 {
		checkOdd(t, randomText(r, n))
	}
	for _, s := range []string{"", "a", "h\u00E9, \u4E16", "\xFF\xFE", strings.Repeat("\x00", 1000)} {
		checkOdd(t, s)
	}
}

func checkOdd(t *testing.T, s string) {
	t.Helper()
	odd := cipher.Odd(s)
	if len(odd) != len(s) {
		t.Fatalf("3.4: Odd(%x) = %x", s, odd)
	}
	for i := range len(s) {
		if ones(odd[i])%2 != 1 || odd[i]/2 != s[i]/2 {
			t.Errorf("3.4: Odd(%x) = %x, at %d", s, odd, i)
		}
	}
	if cipher.Odd(odd) != odd {
		t.Errorf("3.4: Odd of Odd(%x) = %x, not %x", s, cipher.Odd(odd), odd)
	}
}

// TestWeakWhateverTheLowestBits: all 256 rows of lowest bits of each weak part, in each place of a key.
func TestWeakWhateverTheLowestBits(t *testing.T) {
	for _, w := range weakKeys {
		for lowest := range 256 {
			p := []byte(w)
			for i := range p {
				p[i] = p[i]&^1 | byte(lowest>>i&1)
			}
			s, a, b := string(p), "a strong", "strong b"
			for _, key := range []string{s, s + a, a + s, s + a + b, a + s + b, a + b + s, s + s, s + s + s} {
				if !cipher.Weak(key) {
					t.Errorf("3.5: Weak(%x) is false", key)
				}
			}
		}
	}
}

// TestOneBitMoreIsNotWeak: any other bit than the lowest ones makes another key of it.
func TestOneBitMoreIsNotWeak(t *testing.T) {
	for _, w := range weakKeys {
		for n := range 64 {
			p := []byte(w)
			p[n/8] ^= 1 << (n % 8)
			if got, want := cipher.Weak(string(p)), n%8 == 0; got != want {
				t.Errorf("3.5: Weak(%x) is %v", p, got)
			}
		}
	}
	for _, key := range []string{
		strings.Repeat("\x02", 8), "\xE0\xE0\xE0\xE0\xE0\xE0\xE0\xE0", "\xF1\xF1\xF1\xF1\xE0\xE0\xE0\xE0",
		"\x1F\x1F\x1F\x1F\x1F\x1F\x1F\x1F", "\x0E\x0E\x0E\x0E\x1F\x1F\x1F\x1F", "\x01\xFE\x01\xFE\x01\xFE\x01\xFE",
		"a strongstrong b", "a strongstrong bc strong",
		"aaaa\x01\x01\x01\x01\x01\x01\x01\x01aaaa", // no part of its own
	} {
		if cipher.Weak(key) {
			t.Errorf("3.5: Weak(%x) is true", key)
		}
	}
}

func TestWeakOnlyOfKeys(t *testing.T) {
	for n := range 60 {
		want := n == 8 || n == 16 || n == 24
		for _, c := range []string{"\x00", "\x01", "\xFE", "\xFF"} {
			if got := cipher.Weak(strings.Repeat(c, n)); got != want {
				t.Errorf("3.5: Weak of %d bytes %x is %v", n, c, got)
			}
		}
		if cipher.Weak(strings.Repeat("k", n)) {
			t.Errorf("3.5: Weak of %d bytes k is true", n)
		}
	}
}

func TestCheck(t *testing.T) {
	noughts := strings.Repeat("\x00", 8)
	if s, e := cipher.Check(noughts); s != "\x8C\xA6\x4D" || e != api.OK {
		t.Errorf("3.6: Check of noughts = %x, %d", s, e)
	}
	for _, key := range someKeys() {
		if s, e := cipher.Check(key); s != libraryEncrypt(t, key, noughts)[:3] || e != api.OK {
			t.Errorf("3.6: Check(%x) = %x, %d", key, s, e)
		}
	}
	for n := range 100 {
		want, size := api.ErrKey, 0
		if n == 8 || n == 16 || n == 24 {
			want, size = api.OK, 3
		}
		if s, e := cipher.Check(strings.Repeat("k", n)); len(s) != size || e != want {
			t.Errorf("3.6: Check of %d bytes = %x, %d, want %d bytes, %d", n, s, e, size, want)
		}
	}
}

func TestXor(t *testing.T) {
	r := rand.New(rand.NewSource(37))
	for n := range 40 {
		for m := range 40 {
			a, b := randomText(r, n), randomText(r, m)
			s, e := cipher.Xor(a, b)
			if n != m && (s != "" || e != api.ErrArg) {
				t.Errorf("3.7: Xor(%x, %x) = %x, %d, want ErrArg", a, b, s, e)
			}
			if n == m && (s != sum(a, b) || e != api.OK) {
				t.Errorf("3.7: Xor(%x, %x) = %x, %d", a, b, s, e)
			}
		}
	}
	if s, e := cipher.Xor("\x0F\xFF\x00\x55", "\xFF\x0F\x00\xAA"); s != "\xF0\xF0\x00\xFF" || e != api.OK {
		t.Errorf("3.7: Xor = %x, %d", s, e)
	}
}
