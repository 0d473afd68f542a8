package cipher_test

import (
	"math/rand"
	"testing"

	"turnstile/api"
	"turnstile/cipher"
)

// What follows (3.8).

func TestThereAndBack(t *testing.T) {
	r := rand.New(rand.NewSource(38))
	for _, key := range someKeys() {
		b := ready(t, key)
		for n := range 6 {
			first, s := randomText(r, 8), randomText(r, 8*n)
			x, _ := b.Encrypt(s)
			if got, e := b.Decrypt(x); got != s || e != api.OK {
				t.Errorf("3.8: under %x Decrypt of Encrypt(%x) = %x, %d", key, s, got, e)
			}
			x, _ = b.Decrypt(s)
			if got, e := b.Encrypt(x); got != s || e != api.OK {
				t.Errorf("3.8: under %x Encrypt of Decrypt(%x) = %x, %d", key, s, got, e)
			}
			x, _ = b.Chain(first, s)
			if got, e := b.Unchain(first, x); got != s || e != api.OK {
				t.Errorf("3.8: under %x Unchain of Chain(%x, %x) = %x, %d", key, first, s, got, e)
			}
			x, _ = b.Unchain(first, s)
			if got, e := b.Chain(first, x); got != s || e != api.OK {
				t.Errorf("3.8: under %x Chain of Unchain(%x, %x) = %x, %d", key, first, s, got, e)
			}
		}
	}
}

// turned is a text with all bits turned.
func turned(s string) string {
	b := []byte(s)
	for i := range b {
		b[i] = ^b[i]
	}
	return string(b)
}

func TestAllBitsTurned(t *testing.T) {
	r := rand.New(rand.NewSource(39))
	for _, key := range someKeys() {
		one, other := ready(t, key), ready(t, turned(key))
		for range 5 {
			s := randomText(r, 16)
			x, _ := one.Encrypt(s)
			if y, e := other.Encrypt(turned(s)); y != turned(x) || e != api.OK {
				t.Errorf("3.8: under %x and turned Encrypt(%x) = %x, %x, %d", key, s, x, y, e)
			}
			x, _ = one.Decrypt(s)
			if y, e := other.Decrypt(turned(s)); y != turned(x) || e != api.OK {
				t.Errorf("3.8: under %x and turned Decrypt(%x) = %x, %x, %d", key, s, x, y, e)
			}
		}
	}
}

// sameKeys fails unless both keys do the same.
func sameKeys(t *testing.T, one, other string) {
	t.Helper()
	r := rand.New(rand.NewSource(int64(len(one))))
	a, b := ready(t, one), ready(t, other)
	for range 5 {
		s := randomText(r, 24)
		x, _ := a.Encrypt(s)
		y, _ := b.Encrypt(s)
		u, _ := a.Decrypt(s)
		v, _ := b.Decrypt(s)
		if x != y || u != v {
			t.Errorf("3.8: %x and %x are not the same key: %x, %x; %x, %x", one, other, x, y, u, v)
		}
	}
}

func TestPartsThatAreAlike(t *testing.T) {
	r := rand.New(rand.NewSource(40))
	for range 50 {
		a, c := randomText(r, 8), randomText(r, 8)
		sameKeys(t, a+a, a)
		sameKeys(t, a+a+c, c)
		sameKeys(t, a+c+c, a)
		sameKeys(t, a+a+a, a)
		sameKeys(t, a+c+a, a+c)
	}
}

func TestLowestBitsChangeNothing(t *testing.T) {
	for _, key := range someKeys() {
		sameKeys(t, key, cipher.Odd(key))
		flipped := []byte(key)
		for i := range flipped {
			flipped[i] ^= 1
		}
		sameKeys(t, key, string(flipped))
	}
}

func TestWeakKeysUndoThemselves(t *testing.T) {
	r := rand.New(rand.NewSource(41))
	for _, key := range weakKeys {
		for _, key := range []string{key, sum(key, "\x01\x00\x01\x01\x00\x00\x01\x00")} {
			b, s := ready(t, key), randomText(r, 40)
			x, _ := b.Encrypt(s)
			if y, e := b.Encrypt(x); y != s || e != api.OK {
				t.Errorf("3.8: under %x Encrypt twice of %x = %x, %d", key, s, y, e)
			}
		}
	}
}
