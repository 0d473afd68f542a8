package seal_test

import (
	"math/rand"
	"strings"
	"testing"

	"turnstile/api"
	"turnstile/seal"
)

// TestKnownTags: the tags that the document and the standard print.
func TestKnownTags(t *testing.T) {
	const text = "Now is the time for all "
	for _, c := range []struct {
		alg, method    int
		key, s, tagged string
	}{
		{1, 1, "0123456789ABCDEF", text, "70A30640CC76DD8B"},
		{3, 1, "0123456789ABCDEF0123456789ABCDEF", text, "70A30640CC76DD8B"},
		{3, 1, "0123456789ABCDEFFEDCBA9876543210", text, "A1C72E74EA3FA9B6"},
		{3, 2, "0123456789ABCDEFFEDCBA9876543210", text, "E9086230CA3BE796"},
		{3, 1, "7CA110454A1A6E570131D9619DC1376E", "Hello World !!!!", "F09B856213BAB83B"},
	} {
		if s, e := seal.Tag(c.alg, c.method, bytesOf(c.key), c.s); s != bytesOf(c.tagged) || e != api.OK {
			t.Errorf("4.2: Tag(%d, %d, %s, %q) = %X, %d, want %s", c.alg, c.method, c.key, c.s, s, e, c.tagged)
		}
	}
}

// TestTagsOfEachLength: with keys as chance makes them, and with weak ones: no key is refused.
func TestTagsOfEachLength(t *testing.T) {
	r := rand.New(rand.NewSource(44))
	for n := range 70 {
		for _, way := range ways() {
			alg, method := way[0], way[1]
			size := keySize(alg)
			for _, key := range []string{randomText(r, size), randomText(r, size), strings.Repeat("\x01", size), strings.Repeat("\xFF", size)} {
				for _, text := range []string{randomText(r, n), strings.Repeat("\x00", n)} {
					want := libraryTag(alg, method, key, text)
					if s, e := seal.Tag(alg, method, key, text); s != want || e != api.OK {
						t.Errorf("4.2: Tag(%d, %d, %x, %x) = %x, %d, want %x", alg, method, key, text, s, e, want)
					}
				}
			}
		}
	}
}

func TestTagOfALongText(t *testing.T) {
	text := randomText(rand.New(rand.NewSource(45)), 9999)
	for _, way := range ways() {
		key := pair[:keySize(way[0])]
		if s, e := seal.Tag(way[0], way[1], key, text); s != libraryTag(way[0], way[1], key, text) || e != api.OK {
			t.Errorf("4.2: Tag(%d, %d) of 9999 bytes = %x, %d", way[0], way[1], s, e)
		}
	}
}

// TestTagByHand: the chain starts from noughts, and by halves its last block goes back under the second one.
func TestTagByHand(t *testing.T) {
	const text = "block 1.block 2"
	first := encrypted(pair[:8], "block 1.")
	sum := []byte("block 2\x80")
	for i := range sum {
		sum[i] ^= first[i]
	}
	last := encrypted(pair[:8], string(sum))
	if s := tagOf(t, 1, 2, pair[:8], text); s != last {
		t.Errorf("4.2: Tag by algorithm 1 = %x, want %x", s, last)
	}
	want := encrypted(pair[:8], decrypted(pair[8:], last))
	if s := tagOf(t, 3, 2, pair, text); s != want {
		t.Errorf("4.2: Tag by algorithm 3 = %x, want %x", s, want)
	}
}

// TestTagRefuses: ErrArg counts ahead of ErrKey.
func TestTagRefuses(t *testing.T) {
	for _, alg := range numbers() {
		for _, method := range numbers() {
			for n := range 34 {
				want, size := api.OK, 8
				switch {
				case alg != 1 && alg != 3 || method != 1 && method != 2:
					want, size = api.ErrArg, 0
				case n != keySize(alg):
					want, size = api.ErrKey, 0
				}
				if s, e := seal.Tag(alg, method, strings.Repeat("k", n), "text"); len(s) != size || e != want {
					t.Fatalf("4.2: Tag(%d, %d) with %d bytes of key = %x, %d, want %d bytes, %d", alg, method, n, s, e, size, want)
				}
			}
		}
	}
}
