package cipher_test

import (
	"math/rand"
	"strings"
	"testing"

	"turnstile/api"
)

// TestManyChains: as the library's cipher has them, in blocks that each hang on the one ahead.
func TestManyChains(t *testing.T) {
	r := rand.New(rand.NewSource(33))
	for _, key := range someKeys() {
		b := ready(t, key)
		for n := range 9 {
			first, s := randomText(r, 8), randomText(r, 8*n)
			if got, e := b.Chain(first, s); got != libraryChain(t, key, first, s) || e != api.OK {
				t.Errorf("3.3: under %x Chain(%x, %x) = %x, %d", key, first, s, got, e)
			}
			if got, e := b.Unchain(first, s); got != libraryUnchain(t, key, first, s) || e != api.OK {
				t.Errorf("3.3: under %x Unchain(%x, %x) = %x, %d", key, first, s, got, e)
			}
		}
	}
}

// TestChainByHand: the sum with what came ahead, and then the block.
func TestChainByHand(t *testing.T) {
	b := ready(t, "a key of two par")
	const first, one, two = "first...", "block 1.", "block 2."
	x := encrypted(t, b.Encrypt, sum(first, one))
	y := encrypted(t, b.Encrypt, sum(x, two))
	if s, e := b.Chain(first, one+two); s != x+y || e != api.OK {
		t.Errorf("3.3: Chain = %x, %d, want %x", s, e, x+y)
	}
	u := sum(encrypted(t, b.Decrypt, one), first)
	v := sum(encrypted(t, b.Decrypt, two), one)
	if s, e := b.Unchain(first, one+two); s != u+v || e != api.OK {
		t.Errorf("3.3: Unchain = %x, %d, want %x", s, e, u+v)
	}
}

func TestChainFromNoughts(t *testing.T) {
	b := ready(t, "some key")
	noughts := strings.Repeat("\x00", 8)
	one, _ := b.Encrypt("a block!")
	if s, e := b.Chain(noughts, "a block!"); s != one || e != api.OK {
		t.Errorf("3.3: Chain from noughts = %x, %d, want %x", s, e, one)
	}
	if s, e := b.Chain("somebyte", ""); s != "" || e != api.OK {
		t.Errorf("3.3: Chain of the empty text = %x, %d", s, e)
	}
	if s, e := b.Unchain("somebyte", ""); s != "" || e != api.OK {
		t.Errorf("3.3: Unchain of the empty text = %x, %d", s, e)
	}
}

func TestChainAsksForLengths(t *testing.T) {
	b := ready(t, "some key")
	for first := range 26 {
		for n := range 42 {
			want, size := api.OK, n
			if first != 8 || n%8 != 0 {
				want, size = api.ErrBlock, 0
			}
			f, s := strings.Repeat("f", first), strings.Repeat("s", n)
			if got, e := b.Chain(f, s); len(got) != size || e != want {
				t.Errorf("3.3: Chain of %d, %d bytes = %x, %d, want %d bytes, %d", first, n, got, e, size, want)
			}
			if got, e := b.Unchain(f, s); len(got) != size || e != want {
				t.Errorf("3.3: Unchain of %d, %d bytes = %x, %d, want %d bytes, %d", first, n, got, e, size, want)
			}
		}
	}
}

func encrypted(t *testing.T, turn func(string) (string, api.Errno), s string) string {
	t.Helper()
	out, e := turn(s)
	if e != api.OK {
		t.Fatalf("3.2: %x: %d", s, e)
	}
	return out
}

func sum(a, b string) string {
	out := make([]byte, len(a))
	for i := range out {
		out[i] = a[i] ^ b[i]
	}
	return string(out)
}
