package cipher_test

import (
	"math/rand"
	"strings"
	"testing"

	"turnstile/api"
	"turnstile/cipher"
)

func TestNewAsksForTheLength(t *testing.T) {
	for n := range 300 {
		for _, c := range []string{"\x00", "k", "\xFF"} {
			b, e := cipher.New(strings.Repeat(c, n))
			if n == 8 || n == 16 || n == 24 {
				if b == nil || e != api.OK {
					t.Errorf("3.1: New of %d bytes %q = %v, %d", n, c, b, e)
				}
			} else if b != nil || e != api.ErrKey {
				t.Errorf("3.1: New of %d bytes %q = %v, %d, want ErrKey", n, c, b, e)
			}
		}
	}
}

func TestNewRefusesNoKey(t *testing.T) {
	for _, w := range weakKeys {
		for _, key := range []string{w, w + w, w + w + w, "abcdefgh" + w} {
			if b, e := cipher.New(key); b == nil || e != api.OK {
				t.Errorf("3.1: New(%x) = %v, %d", key, b, e)
			}
		}
	}
}

// TestKnownBlocks: what is printed elsewhere of this cipher holds, with keys of each length.
func TestKnownBlocks(t *testing.T) {
	for _, k := range []struct{ key, plain, want string }{
		{"133457799BBCDFF1", "0123456789ABCDEF", "85E813540F0AB405"},
		{"0E329232EA6D0D73", "8787878787878787", "0000000000000000"},
		{"0000000000000000", "0000000000000000", "8CA64DE9C1B123A7"},
		{"FFFFFFFFFFFFFFFF", "FFFFFFFFFFFFFFFF", "7359B2163E4EDC58"},
		{"3000000000000000", "1000000000000001", "958E6E627A05557B"},
		{"1111111111111111", "1111111111111111", "F40379AB9E0EC533"},
		{"0123456789ABCDEF", "1111111111111111", "17668DFC7292532D"},
		{"FEDCBA9876543210", "0123456789ABCDEF", "ED39D950FA74BCC4"},
		{"7CA110454A1A6E57", "01A1D6D039776742", "690F5B0D9A26939B"},
		{"0123456789ABCDEFFEDCBA9876543210", "4E6F772069732074", "D80A0D8B2BAE5E4E"},
		{"0123456789ABCDEF23456789ABCDEF01456789ABCDEF0123", "5468652071756663", "A826FD8CE53B855F"},
	} {
		plain, want := bytesOf(k.plain), bytesOf(k.want)
		b := ready(t, bytesOf(k.key))
		if s, e := b.Encrypt(plain); s != want || e != api.OK {
			t.Errorf("3.2: under %s Encrypt(%s) = %X, %d, want %s", k.key, k.plain, s, e, k.want)
		}
		if s, e := b.Decrypt(want); s != plain || e != api.OK {
			t.Errorf("3.2: under %s Decrypt(%s) = %X, %d, want %s", k.key, k.want, s, e, k.plain)
		}
	}
}

// TestEachBitAlone: a block with one bit, and a key with one bit: so each number of a table is asked.
func TestEachBitAlone(t *testing.T) {
	noughts := strings.Repeat("\x00", 8)
	zero := ready(t, noughts)
	for n := range 64 {
		one := make([]byte, 8)
		one[n/8] = 128 >> (n % 8)
		if s, e := zero.Encrypt(string(one)); s != libraryEncrypt(t, noughts, string(one)) || e != api.OK {
			t.Errorf("3.2: Encrypt of bit %d = %x, %d", n+1, s, e)
		}
		if s, e := zero.Decrypt(string(one)); s != libraryDecrypt(t, noughts, string(one)) || e != api.OK {
			t.Errorf("3.2: Decrypt of bit %d = %x, %d", n+1, s, e)
		}
		if s, e := ready(t, string(one)).Encrypt(noughts); s != libraryEncrypt(t, string(one), noughts) || e != api.OK {
			t.Errorf("3.2: under a key of bit %d: %x, %d", n+1, s, e)
		}
	}
}

// TestManyBlocks: each block by itself, as the library's cipher has it.
func TestManyBlocks(t *testing.T) {
	r := rand.New(rand.NewSource(32))
	for _, key := range someKeys() {
		b := ready(t, key)
		for n := range 9 {
			s := randomText(r, 8*n)
			if got, e := b.Encrypt(s); got != libraryEncrypt(t, key, s) || e != api.OK {
				t.Errorf("3.2: under %x Encrypt(%x) = %x, %d", key, s, got, e)
			}
			if got, e := b.Decrypt(s); got != libraryDecrypt(t, key, s) || e != api.OK {
				t.Errorf("3.2: under %x Decrypt(%x) = %x, %d", key, s, got, e)
			}
		}
	}
}

// TestBlocksThatAreAlike: what stands ahead of a block does not change what comes of it.
func TestBlocksThatAreAlike(t *testing.T) {
	b := ready(t, "0123456789abcdef")
	one, _ := b.Encrypt("a block!")
	other, _ := b.Encrypt("another!")
	if s, e := b.Encrypt("a block!another!a block!"); s != one+other+one || e != api.OK {
		t.Errorf("3.2: Encrypt of three = %x, %d, want %x", s, e, one+other+one)
	}
	if s, e := b.Decrypt(other + one + one); s != "another!a block!a block!" || e != api.OK {
		t.Errorf("3.2: Decrypt of three = %q, %d", s, e)
	}
}

func TestPartsOneBehindTheOther(t *testing.T) {
	const one, two, three, s = "a part A", "b part B", "c part C", "a block!another!"
	a, b, c := ready(t, one), ready(t, two), ready(t, three)
	x, _ := a.Encrypt(s)
	x, _ = b.Decrypt(x)
	under2, _ := a.Encrypt(x)
	under3, _ := c.Encrypt(x)
	if got, e := ready(t, one+two).Encrypt(s); got != under2 || e != api.OK {
		t.Errorf("3.2: Encrypt under two parts = %x, %d, want %x", got, e, under2)
	}
	if got, e := ready(t, one+two+three).Encrypt(s); got != under3 || e != api.OK {
		t.Errorf("3.2: Encrypt under three parts = %x, %d, want %x", got, e, under3)
	}
	if got, e := ready(t, one+two).Decrypt(under2); got != s || e != api.OK {
		t.Errorf("3.2: Decrypt under two parts = %x, %d", got, e)
	}
	if got, e := ready(t, one+two+three).Decrypt(under3); got != s || e != api.OK {
		t.Errorf("3.2: Decrypt under three parts = %x, %d", got, e)
	}
}

func TestOnlyWholeBlocks(t *testing.T) {
	for _, key := range []string{"8 bytes.", "16 bytes, or two", "24 bytes, that are three"} {
		b := ready(t, key)
		for n := range 100 {
			want, size := api.OK, n
			if n%8 != 0 {
				want, size = api.ErrBlock, 0
			}
			s := strings.Repeat("s", n)
			if got, e := b.Encrypt(s); len(got) != size || e != want {
				t.Errorf("3.2: Encrypt of %d bytes = %x, %d, want %d bytes, %d", n, got, e, size, want)
			}
			if got, e := b.Decrypt(s); len(got) != size || e != want {
				t.Errorf("3.2: Decrypt of %d bytes = %x, %d, want %d bytes, %d", n, got, e, size, want)
			}
		}
	}
}
