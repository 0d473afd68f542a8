package pin_test

import (
	"math/rand"
	"strings"
	"testing"

	"turnstile/api"
	"turnstile/pin"
)

func checkOpen(t *testing.T, format int, block, pan string) {
	t.Helper()
	want, e := wantOpen(format, block, pan)
	if got, f := pin.Open(format, block, pan); got != want || f != e {
		t.Errorf("6.2: Open(%d, %X, %q) = %q, %d, want %q, %d", format, block, pan, got, f, want, e)
	}
}

func TestOpenExamples(t *testing.T) {
	for _, k := range []struct {
		format     int
		block, pan string
		want       string
		e          api.Errno
	}{
		{0, "0412AC89ABCDEF67", somePAN, "1234", api.OK},
		{1, "1412340123456789", "", "1234", api.OK},
		{1, "1412340123456789", "no PAN at all", "1234", api.OK},
		{1, "1C123456789012AF", somePAN, "123456789012", api.OK},
		{3, "3412ACDCFE98BA32", somePAN, "1234", api.OK},
		{0, "1412340123456789", somePAN, "", api.ErrFormat},
		{1, "0412AC89ABCDEF67", somePAN, "", api.ErrFormat},
		{2, "2412340123456789", somePAN, "", api.ErrFormat},
		{0, "0412AC89ABCDEF", somePAN, "", api.ErrFormat},
		{0, "0412AC89ABCDEF67", "123", "", api.ErrPAN},
		{0, "0312AC89ABCDEF67", somePAN, "", api.ErrPIN},
		{0, "0D12AC89ABCDEF67", somePAN, "", api.ErrPIN},
		{0, "04A2AC89ABCDEF67", somePAN, "", api.ErrPIN},
		{0, "0412AC89ABCDEF66", somePAN, "", api.ErrPIN},
		{1, "1412A40123456789", somePAN, "", api.ErrPIN},
		{3, "3412ACDCFE98BA01", somePAN, "", api.ErrPIN},
	} {
		if got, e := pin.Open(k.format, bytesOf(k.block), k.pan); got != k.want || e != k.e {
			t.Errorf("6.2: Open(%d, %s, %q) = %q, %d, want %q, %d", k.format, k.block, k.pan, got, e, k.want, k.e)
		}
	}
}

// TestOpenAsksForTheFormat: one that there is not, or that the block has not.
func TestOpenAsksForTheFormat(t *testing.T) {
	for _, format := range manyFormats() {
		for first := range 256 {
			for _, rest := range []string{"\x12\x34\x01\x23\x45\x67\x89", "\x12\xAC\x89\xAB\xCD\xEF\x67"} {
				block := string([]byte{byte(first)}) + rest
				checkOpen(t, format, block, somePAN)
				checkOpen(t, format, block, "none")
			}
		}
	}
}

func TestOpenAsksForTheBlock(t *testing.T) {
	for _, format := range formats() {
		right, _ := wantBlock(format, "123456", somePAN, map[int]string{1: "01234567", 3: "ABCDEFAB"}[format])
		long := right + right + right
		for n := range len(long) + 1 {
			checkOpen(t, format, long[:n], somePAN)
			checkOpen(t, format, long[:n], "")
		}
		for n := range 300 {
			checkOpen(t, format, strings.Repeat("\x00", n), somePAN)
			checkOpen(t, format, strings.Repeat("\x14", n), somePAN)
		}
	}
}

// TestOpenAsksForThePAN: of the formats that know one, and ahead of what stands in the block.
func TestOpenAsksForThePAN(t *testing.T) {
	for _, format := range formats() {
		for n := range 300 {
			pan := strings.Repeat("7", n)
			fill := map[int]string{1: "0123456789", 3: "ABCDEFABCD"}[format]
			right, _ := wantBlock(format, "1234", "7777777777777", fill)
			checkOpen(t, format, right, pan)
			checkOpen(t, format, right[:1]+"\xFF"+right[2:], pan)
			if n < 13 || n > 19 {
				continue
			}
			for at := range n {
				for c := range 256 {
					checkOpen(t, format, right, withByte(pan, at, byte(c)))
				}
			}
		}
	}
}

// TestOpenLooksAtEachByte: each one at each place of a right block, for PINs of each length.
func TestOpenLooksAtEachByte(t *testing.T) {
	r := rand.New(rand.NewSource(62))
	for _, format := range formats() {
		for n := 4; n <= 12; n++ {
			p, pan := oneOf(r, "0123456789", n), randomPAN(r)
			right, _ := wantBlock(format, p, pan, randomFill(r, format, n))
			for at := range right {
				for c := range 256 {
					checkOpen(t, format, withByte(right, at, byte(c)), pan)
				}
			}
		}
	}
}

// TestOpenOfEachLength: the second sixteenth says where the PIN ends and the filling begins.
func TestOpenOfEachLength(t *testing.T) {
	for _, format := range formats() {
		for second := range 16 {
			for digits := range 15 {
				for _, c := range []string{"0", "9", "A", "E", "F"} {
					s := sixteenthsOf(format, second) + strings.Repeat("9", digits) + strings.Repeat(c, 14-digits)
					if format != 1 {
						s = withPAN(s, somePAN)
					}
					checkOpen(t, format, bytesOf(s), somePAN)
				}
			}
		}
	}
}

func sixteenthsOf(numbers ...int) string {
	s := ""
	for _, n := range numbers {
		s += "0123456789ABCDEF"[n : n+1]
	}
	return s
}

// TestManyOpened: blocks that chance makes, most of them nearly right.
func TestManyOpened(t *testing.T) {
	r := rand.New(rand.NewSource(63))
	for range 40000 {
		format := formats()[r.Intn(3)]
		p, pan := randomPIN(r), randomPAN(r)
		block, _ := wantBlock(format, p, pan, randomFill(r, format, len(p)))
		for range r.Intn(3) {
			block = withByte(block, r.Intn(8), byte(r.Intn(256)))
		}
		checkOpen(t, format, block, pan)
		checkOpen(t, format, block, randomPAN(r))
		checkOpen(t, format, string([]byte{byte(format<<4) | byte(r.Intn(16))})+randomText(r, 7), pan)
	}
}
