package pin_test

import (
	"fmt"
	"math/rand"
	"strings"
	"testing"

	"turnstile/api"
	"turnstile/pin"
)

func checkBlock(t *testing.T, format int, p, pan, fill string) {
	t.Helper()
	want, e := wantBlock(format, p, pan, fill)
	if got, f := pin.Block(format, p, pan, fill); got != want || f != e {
		t.Errorf("6.1: Block(%d, %q, %q, %q) = %X, %d, want %X, %d", format, p, pan, fill, got, f, want, e)
	}
}

func TestBlockExamples(t *testing.T) {
	for _, k := range []struct {
		format       int
		p, pan, fill string
		want         string
		e            api.Errno
	}{
		{0, "1234", somePAN, "", "0412AC89ABCDEF67", api.OK},
		{1, "1234", "", "0123456789", "1412340123456789", api.OK},
		{1, "1234", "no PAN at all", "0123456789", "1412340123456789", api.OK},
		{3, "1234", somePAN, "AAAAAAAAAA", "3412ACDCFE98BA32", api.OK},
		{0, "123456789012", "0000000000000", "", "0C123456789012FF", api.OK},
		{0, "123456789012", "1234567890123", "", "0C1226622EE882ED", api.OK},
		{0, "123", somePAN, "", "", api.ErrPIN},
		{0, "1234", "123", "", "", api.ErrPAN},
		{2, "1234", somePAN, "", "", api.ErrFormat},
		{0, "1234", somePAN, "F", "", api.ErrFill},
	} {
		if got, e := pin.Block(k.format, k.p, k.pan, k.fill); fmt.Sprintf("%X", got) != k.want || e != k.e {
			t.Errorf("6.1: Block(%d, %q, %q, %q) = %X, %d, want %s, %d", k.format, k.p, k.pan, k.fill, got, e, k.want, k.e)
		}
	}
}

func TestBlockAsksForTheFormat(t *testing.T) {
	for _, format := range manyFormats() {
		for _, fill := range []string{"", "AAAAAAAAAA", "0123456789", "?"} {
			checkBlock(t, format, "1234", somePAN, fill)
			checkBlock(t, format, "", "", fill)
		}
	}
}

// TestBlockAsksForThePIN: its length, and each byte at each place.
func TestBlockAsksForThePIN(t *testing.T) {
	for _, format := range formats() {
		for n := range 300 {
			p := strings.Repeat("5", n)
			fill := ""
			if format != 0 && n < 14 {
				fill = strings.Repeat("B", 14-n)
			}
			checkBlock(t, format, p, somePAN, fill)
			if n < 4 || n > 12 {
				checkBlock(t, format, p, "", "?")
				continue
			}
			for at := range n {
				for c := range 256 {
					checkBlock(t, format, withByte(p, at, byte(c)), somePAN, fill)
				}
			}
		}
	}
}

// TestBlockAsksForThePAN: of the formats that know one.
func TestBlockAsksForThePAN(t *testing.T) {
	for _, format := range formats() {
		fill := strings.Repeat("C", 10)
		if format == 0 {
			fill = ""
		}
		for n := range 300 {
			pan := strings.Repeat("7", n)
			checkBlock(t, format, "1234", pan, fill)
			checkBlock(t, format, "1234", pan, "?")
			if n < 13 || n > 19 {
				continue
			}
			for at := range n {
				for c := range 256 {
					checkBlock(t, format, "1234", withByte(pan, at, byte(c)), fill)
				}
			}
		}
	}
}

// TestOnlyTwelveDigitsOfThePAN: those left of the last one are added, the others change nothing.
func TestOnlyTwelveDigitsOfThePAN(t *testing.T) {
	for n := 13; n <= 19; n++ {
		pan := strings.Repeat("4", n)
		for _, format := range []int{0, 3} {
			fill := "ABCDEFABCD"
			if format == 0 {
				fill = ""
			}
			want, _ := pin.Block(format, "9876", pan, fill)
			for at := range n {
				got, e := pin.Block(format, "9876", withByte(pan, at, '5'), fill)
				if within := at >= n-13 && at < n-1; (got != want) != within || e != api.OK {
					t.Errorf("6.1: Block(%d) of a PAN of %d digits, the one at %d turned: %X, %d, was %X", format, n, at, got, e, want)
				}
			}
		}
	}
}

// TestBlockAsksForTheFilling: its length, and each byte at each place; of format 0 there is none.
func TestBlockAsksForTheFilling(t *testing.T) {
	for _, format := range formats() {
		for n := 4; n <= 12; n++ {
			p := "123456789012"[:n]
			for size := range 40 {
				for _, c := range []string{"0", "9", "A", "F", "a", "f", "@", "G", ":", "/", "\x00", "\xC1"} {
					checkBlock(t, format, p, somePAN, strings.Repeat(c, size))
				}
			}
			right := strings.Repeat("D", 14-n)
			for at := range right {
				for c := range 256 {
					checkBlock(t, format, p, somePAN, withByte(right, at, byte(c)))
				}
			}
		}
	}
}

// TestBlockTellsTheFirstError: right and wrong ones of each argument, each with each.
func TestBlockTellsTheFirstError(t *testing.T) {
	for _, format := range []int{0, 1, 2, 3, -1, 4} {
		for _, p := range []string{"1234", "123456789012", "", "123", "12a4", "1234567890123"} {
			for _, pan := range []string{somePAN, "", "123456789012", "12345678901234567890", "1234567890123?"} {
				for _, fill := range []string{"", "AAAAAAAAAA", "0123456789", "AF", "09", "?", "012345678a"} {
					checkBlock(t, format, p, pan, fill)
				}
			}
		}
	}
}

func TestManyBlocks(t *testing.T) {
	r := rand.New(rand.NewSource(61))
	for range 20000 {
		format := formats()[r.Intn(3)]
		p, pan := randomPIN(r), randomPAN(r)
		checkBlock(t, format, p, pan, randomFill(r, format, len(p)))
	}
}
