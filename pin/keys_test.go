package pin_test

import (
	"math/rand"
	"strings"
	"testing"

	"turnstile/api"
	"turnstile/pin"
)

func checkSeal(t *testing.T, key string, format int, p, pan, fill string) {
	t.Helper()
	want, e := wantSeal(key, format, p, pan, fill)
	if got, f := pin.Seal(key, format, p, pan, fill); got != want || f != e {
		t.Errorf("6.3: Seal(%q, %d, %q, %q, %q) = %X, %d, want %X, %d", key, format, p, pan, fill, got, f, want, e)
	}
}

func checkUnseal(t *testing.T, key string, format int, block, pan string) {
	t.Helper()
	want, e := wantUnseal(key, format, block, pan)
	if got, f := pin.Unseal(key, format, block, pan); got != want || f != e {
		t.Errorf("6.3: Unseal(%q, %d, %X, %q) = %q, %d, want %q, %d", key, format, block, pan, got, f, want, e)
	}
}

func checkMove(t *testing.T, from, to string, old, format int, block, pan, fill string) {
	t.Helper()
	want, e := wantMove(from, to, old, format, block, pan, fill)
	if got, f := pin.Move(from, to, old, format, block, pan, fill); got != want || f != e {
		t.Errorf("6.4: Move(%q, %q, %d, %d, %X, %q, %q) = %X, %d, want %X, %d", from, to, old, format, block, pan, fill, got, f, want, e)
	}
}

// keysOfAllLengths are of those too that cipher takes.
func keysOfAllLengths() []string {
	l := []string{}
	for n := range 50 {
		l = append(l, strings.Repeat("k", n), strings.Repeat("\x00", n))
	}
	return append(l, someKey+someKey[:8], someKey+someKey)
}

func TestKnownSeal(t *testing.T) {
	key := bytesOf("0123456789ABCDEFFEDCBA9876543210")
	want := encrypted(key, bytesOf("0412AC89ABCDEF67"))
	if got, e := pin.Seal(key, 0, "1234", somePAN, ""); got != want || e != api.OK {
		t.Errorf("6.3: Seal = %X, %d, want %X", got, e, want)
	}
	if p, e := pin.Unseal(key, 0, want, somePAN); p != "1234" || e != api.OK {
		t.Errorf("6.3: Unseal = %q, %d", p, e)
	}
}

// TestKeysOfOneLength: asked ahead of all else.
func TestKeysOfOneLength(t *testing.T) {
	block := encrypted(someKey, bytesOf("0412AC89ABCDEF67"))
	for _, key := range keysOfAllLengths() {
		checkSeal(t, key, 0, "1234", somePAN, "")
		checkSeal(t, key, 2, "", "", "?")
		checkUnseal(t, key, 0, block, somePAN)
		checkUnseal(t, key, 2, "", "")
		for _, right := range []string{someKey, other} {
			checkMove(t, key, right, 0, 0, block, somePAN, "")
			checkMove(t, right, key, 0, 0, block, somePAN, "")
			checkMove(t, key, right, 2, 2, "", "", "?")
			checkMove(t, right, key, 2, 2, "", "", "?")
		}
		checkMove(t, key, key, 2, 2, "", "", "?")
	}
}

// TestNoKeyIsRefused: of the right length a weak one is taken too.
func TestNoKeyIsRefused(t *testing.T) {
	for _, half := range []string{"\x01", "\xFE", "\x00", "\xFF"} {
		key := strings.Repeat(half, 16)
		checkSeal(t, key, 0, "1234", somePAN, "")
		block, _ := wantSeal(key, 0, "1234", somePAN, "")
		checkUnseal(t, key, 0, block, somePAN)
		checkMove(t, key, key, 0, 3, block, somePAN, "ABCDEFABCD")
	}
}

// TestBlocksUnderAKeyAreEight: of another length they are no blocks, be it several or none.
func TestBlocksUnderAKeyAreEight(t *testing.T) {
	for _, format := range append(manyFormats(), 0, 1, 3) {
		for n := range 34 {
			block := strings.Repeat("b", n)
			checkUnseal(t, someKey, format, block, somePAN)
			checkUnseal(t, someKey, format, block, "")
			checkMove(t, someKey, other, format, 0, block, somePAN, "")
			checkMove(t, someKey, other, format, 7, block, "", "?")
		}
	}
	block := encrypted(someKey, bytesOf("0412AC89ABCDEF67"))
	checkUnseal(t, someKey, 0, block+block, somePAN)
}

// TestSealTellsBlocksErrors: whatever Block says, right and wrong ones of each argument.
func TestSealTellsBlocksErrors(t *testing.T) {
	for _, format := range []int{0, 1, 2, 3, -1, 16} {
		for _, p := range []string{"1234", "123456789012", "", "123", "12a4"} {
			for _, pan := range []string{somePAN, "", "123456789012", "12345678901234567890"} {
				for _, fill := range []string{"", "AAAAAAAAAA", "0123456789", "AF", "09", "?"} {
					checkSeal(t, someKey, format, p, pan, fill)
				}
			}
		}
	}
}

// TestUnsealTellsOpensErrors: of each byte at each place of what the key hides.
func TestUnsealTellsOpensErrors(t *testing.T) {
	for _, format := range formats() {
		right, _ := wantBlock(format, "1234567", somePAN, map[int]string{1: "0123456", 3: "ABCDEFA"}[format])
		for at := range right {
			for c := range 256 {
				block := encrypted(other, withByte(right, at, byte(c)))
				checkUnseal(t, other, format, block, somePAN)
				checkMove(t, other, someKey, format, 0, block, somePAN, "")
			}
		}
		block := encrypted(other, right)
		for _, asked := range manyFormats() {
			checkUnseal(t, other, asked, block, somePAN)
			checkUnseal(t, other, asked, block, "none")
		}
	}
}

func TestManySealed(t *testing.T) {
	r := rand.New(rand.NewSource(64))
	for range 3000 {
		key, format := randomText(r, 16), formats()[r.Intn(3)]
		p, pan := randomPIN(r), randomPAN(r)
		fill := randomFill(r, format, len(p))
		checkSeal(t, key, format, p, pan, fill)
		block, _ := wantSeal(key, format, p, pan, fill)
		checkUnseal(t, key, format, block, pan)
		checkUnseal(t, randomText(r, 16), format, block, pan)
		checkUnseal(t, key, format, randomText(r, 8), pan)
	}
}

// TestMove: from each format to each one.
func TestMove(t *testing.T) {
	r := rand.New(rand.NewSource(65))
	for _, old := range formats() {
		for _, format := range formats() {
			for range 200 {
				p, pan := randomPIN(r), randomPAN(r)
				from, to := randomText(r, 16), randomText(r, 16)
				block, _ := wantSeal(from, old, p, pan, randomFill(r, old, len(p)))
				checkMove(t, from, to, old, format, block, pan, randomFill(r, format, len(p)))
				checkMove(t, from, to, old, format, block, pan, randomFill(r, old, len(p)))
				checkMove(t, from, to, old, format, block, randomPAN(r), randomFill(r, format, len(p)))
				checkMove(t, to, from, old, format, block, pan, randomFill(r, format, len(p)))
			}
		}
	}
}

// TestMoveTellsTheFirstError: the key's, that of the old block, that of the new one.
func TestMoveTellsTheFirstError(t *testing.T) {
	blocks := []string{"", "7 bytes", encrypted(someKey, bytesOf("0412AC89ABCDEF67")), encrypted(someKey, bytesOf("1412340123456789")), encrypted(someKey, bytesOf("1F12340123456789")), encrypted(someKey, bytesOf("3412ACDCFE98BA32"))}
	seen := map[api.Errno]bool{}
	for _, from := range []string{someKey, "x"} {
		for _, to := range []string{other, "x"} {
			for _, old := range []int{0, 1, 2, 3} {
				for _, format := range []int{0, 1, 2, 3} {
					for _, block := range blocks {
						for _, pan := range []string{somePAN, "", "123456789012"} {
							for _, fill := range []string{"", "AAAAAAAAAA", "0123456789", "?"} {
								checkMove(t, from, to, old, format, block, pan, fill)
								_, e := pin.Move(from, to, old, format, block, pan, fill)
								seen[e] = true
							}
						}
					}
				}
			}
		}
	}
	for _, e := range []api.Errno{api.OK, api.ErrKey, api.ErrFormat, api.ErrPAN, api.ErrPIN, api.ErrFill} {
		if !seen[e] {
			t.Errorf("6.4: no Move told %d", e)
		}
	}
}
