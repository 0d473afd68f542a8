package pin_test

import (
	"math/rand"
	"testing"

	"turnstile/api"
	"turnstile/pin"
)

// What follows (6.6).

// TestPINsComeBack: from blocks, and from those under a key.
func TestPINsComeBack(t *testing.T) {
	r := rand.New(rand.NewSource(67))
	for range 3000 {
		key, format := randomText(r, 16), formats()[r.Intn(3)]
		p, pan := randomPIN(r), randomPAN(r)
		fill := randomFill(r, format, len(p))
		block, e := pin.Block(format, p, pan, fill)
		if e != api.OK || len(block) != 8 {
			t.Fatalf("6.1: Block(%d, %q, %q, %q) = %X, %d", format, p, pan, fill, block, e)
		}
		if got, e := pin.Open(format, block, pan); got != p || e != api.OK {
			t.Errorf("6.6: Open of Block(%d, %q, %q, %q) = %q, %d", format, p, pan, fill, got, e)
		}
		sealed, e := pin.Seal(key, format, p, pan, fill)
		if e != api.OK || len(sealed) != 8 {
			t.Fatalf("6.3: Seal(%d, %q, %q, %q) = %X, %d", format, p, pan, fill, sealed, e)
		}
		if got, e := pin.Unseal(key, format, sealed, pan); got != p || e != api.OK {
			t.Errorf("6.6: Unseal of Seal(%d, %q, %q, %q) = %q, %d", format, p, pan, fill, got, e)
		}
	}
}

// TestBlocksComeBack: of format 0 no PIN has two blocks, whatever block it was taken out of.
func TestBlocksComeBack(t *testing.T) {
	r := rand.New(rand.NewSource(68))
	taken := 0
	for range 60000 {
		p, pan := randomPIN(r), randomPAN(r)
		block, _ := wantBlock(0, p, pan, "")
		if r.Intn(2) == 0 {
			block = withByte(block, r.Intn(8), byte(r.Intn(256)))
		}
		p, e := pin.Open(0, block, pan)
		if e != api.OK {
			continue
		}
		taken++
		if back, e := pin.Block(0, p, pan, ""); back != block || e != api.OK {
			t.Errorf("6.6: Block of Open(0, %X, %q) = %X, %d", block, pan, back, e)
		}
		if taken > 3000 {
			continue
		}
		sealed := encrypted(someKey, block)
		q, _ := pin.Unseal(someKey, 0, sealed, pan)
		if back, e := pin.Seal(someKey, 0, q, pan, ""); back != sealed || e != api.OK {
			t.Errorf("6.6: Seal of Unseal(0, %X, %q) = %X, %d", sealed, pan, back, e)
		}
	}
	if taken < 10000 {
		t.Errorf("the test took %d blocks only", taken)
	}
}

func TestMovedBlocksComeBack(t *testing.T) {
	r := rand.New(rand.NewSource(69))
	for range 1000 {
		from, to, p, pan := randomText(r, 16), randomText(r, 16), randomPIN(r), randomPAN(r)
		block, _ := pin.Seal(from, 0, p, pan, "")
		there, e := pin.Move(from, to, 0, 0, block, pan, "")
		if e != api.OK || there == block {
			t.Errorf("6.4: Move(0, 0, %X, %q) = %X, %d", block, pan, there, e)
		}
		if back, e := pin.Move(to, from, 0, 0, there, pan, ""); back != block || e != api.OK {
			t.Errorf("6.6: Move there and back of %X = %X, %d", block, back, e)
		}
	}
}

// TestValueHangsOnFourDigits: and on each of them.
func TestValueHangsOnFourDigits(t *testing.T) {
	r := rand.New(rand.NewSource(70))
	changed := [4]int{}
	for range 500 {
		key, pan, first, index := randomText(r, 16), randomPAN(r), oneOf(r, "0123456789", 4), oneOf(r, "123456", 1)
		want, e := pin.Value(key, pan, index, first)
		if e != api.OK || len(want) != 4 {
			t.Fatalf("6.6: Value(%q, %q, %q) = %q, %d", pan, index, first, want, e)
		}
		for at := range want {
			if want[at] < '0' || want[at] > '9' {
				t.Errorf("6.6: Value = %q, no digits", want)
			}
			turned := withByte(first, at, '0'+(first[at]-'0'+1)%10)
			if v, _ := pin.Value(key, pan, index, turned); v != want {
				changed[at]++
			}
		}
		for n := 1; n <= 8; n++ {
			p := first + oneOf(r, "0123456789", n)
			if got, e := pin.Value(key, pan, index, p); got != want || e != api.OK {
				t.Errorf("6.6: Value of %q = %q, %d, of its first four %q", p, got, e, want)
			}
		}
	}
	for at, n := range changed {
		if n < 490 {
			t.Errorf("6.5: with another digit at %d only %d of 500 values were other ones", at, n)
		}
	}
}
