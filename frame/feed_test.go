package frame_test

import (
	"math"
	"math/rand"
	"slices"
	"strings"
	"testing"

	"turnstile/api"
	"turnstile/frame"
)

// wrongArgs are kinds and numbers that New and Wrap refuse.
func wrongArgs() [][2]int {
	var l [][2]int
	for _, header := range []int{0, -1, 5, 6, 256 + api.HeadTwo, math.MinInt, math.MaxInt} {
		for _, most := range []int{-1, 0, 1, 9, 9999, 10000} {
			l = append(l, [2]int{header, most})
		}
	}
	for _, header := range kinds {
		for _, most := range []int{0, -1, 10000, 65535, 65536, math.MinInt, math.MaxInt} {
			l = append(l, [2]int{header, most})
		}
	}
	return l
}

func TestNew(t *testing.T) {
	for _, a := range wrongArgs() {
		if s, e := frame.New(a[0], a[1]); s != nil || e != api.ErrArg {
			t.Errorf("F1: New(%d, %d) = %v, %d; must be nil, ErrArg", a[0], a[1], s != nil, e)
		}
	}
	for _, header := range kinds {
		for most := 1; most <= 9999; most++ {
			s := madeStream(t, header, most)
			if s.Waits() != 0 || s.Idle() != 0 {
				t.Fatalf("F1: of New(%d, %d) Waits is %d, Idle %d", header, most, s.Waits(), s.Idle())
			}
		}
	}
}

// fed is what a Feed is to answer, and what is to be seen behind it.
type fed struct {
	b           string
	want        []string
	e           api.Errno
	waits, idle int
}

func feeds(t *testing.T, s *frame.Stream, l ...fed) {
	t.Helper()
	for i, f := range l {
		got, e := s.Feed([]byte(f.b))
		if !slices.Equal(got, f.want) || e != f.e {
			t.Errorf("F2: the %d. Feed, of %q, = %q, %d; must be %q, %d", i+1, f.b, got, e, f.want, f.e)
		}
		if s.Waits() != f.waits || s.Idle() != f.idle {
			t.Errorf("F3: behind the %d. Feed, of %q, Waits is %d, Idle %d; must be %d, %d", i+1, f.b, s.Waits(), s.Idle(), f.waits, f.idle)
		}
	}
}

func TestFeedByHand(t *testing.T) {
	s := madeStream(t, api.HeadTwo, 10)
	feeds(t, s,
		fed{"\x00\x03abc\x00", []string{"abc"}, api.OK, 1, 0},
		fed{"\x00\x00\x02x", nil, api.OK, 3, 1},
		fed{"y", []string{"xy"}, api.OK, 0, 1},
		fed{"", nil, api.OK, 0, 1},
		fed{"\x00\x01a\x00\x00\x00\x00\x00\x01b\x00", []string{"a", "b"}, api.OK, 1, 3},
		fed{"\x0A0123456789\x00\x0A012345678", []string{"0123456789"}, api.OK, 11, 3},
		fed{"9", []string{"0123456789"}, api.OK, 0, 3},
		fed{"\x00\x02zz\x00\x00\x00\x0B\x00\x01c", []string{"zz"}, api.ErrLong, 0, 4},
		fed{"\x00\x01d\x00\x00", nil, api.ErrLong, 0, 4},
		fed{"", nil, api.ErrLong, 0, 4})
	s.Reset()
	feeds(t, s, fed{"\x00\x01d\x00", []string{"d"}, api.OK, 1, 4})
	s.Reset()
	feeds(t, s, fed{"\x00\x00\x00\x02e", nil, api.OK, 3, 5})
	s.Reset()
	feeds(t, s, fed{"\x00\x01f", []string{"f"}, api.OK, 0, 5})

	s = madeStream(t, api.HeadFour, 9999)
	feeds(t, s, fed{"0002ab00x1", []string{"ab"}, api.ErrHeader, 0, 0}, fed{"0001c", nil, api.ErrHeader, 0, 0})
	s.Reset()
	feeds(t, s, fed{"0001c", []string{"c"}, api.OK, 0, 0}, fed{"0000000100010", []string{"0"}, api.OK, 4, 1})

	s = madeStream(t, api.HeadWhole, 10)
	feeds(t, s, fed{"\x00\x02", nil, api.OK, 0, 1}, fed{"\x00\x05abc", []string{"abc"}, api.OK, 0, 1}, fed{"\x00\x0Cabcdefghij\x00\x03", []string{"abcdefghij"}, api.OK, 2, 1}, fed{"x\x00\x01", []string{"x"}, api.ErrHeader, 0, 1})
	s.Reset()
	feeds(t, s, fed{"\x00\x0D", nil, api.ErrLong, 0, 1})
	s.Reset()
	feeds(t, s, fed{"\x00\x00", nil, api.ErrHeader, 0, 1})

	s = madeStream(t, api.HeadBCD, 10)
	feeds(t, s, fed{"\x00\x10abcdefghij\x00\x00", []string{"abcdefghij"}, api.OK, 0, 1}, fed{"\x00\x11", nil, api.ErrLong, 0, 1})
	s.Reset()
	feeds(t, s, fed{"\x00\x0A", nil, api.ErrHeader, 0, 1})
}

// TestHeaderIsLookedAtWhenWhole: not a byte earlier, however wrong what is there already is.
func TestHeaderIsLookedAtWhenWhole(t *testing.T) {
	feeds(t, madeStream(t, api.HeadFour, 10),
		fed{"x", nil, api.OK, 1, 0}, fed{"y", nil, api.OK, 2, 0}, fed{"z", nil, api.OK, 3, 0}, fed{"0", nil, api.ErrHeader, 0, 0})
	feeds(t, madeStream(t, api.HeadFour, 10),
		fed{"9", nil, api.OK, 1, 0}, fed{"99", nil, api.OK, 3, 0}, fed{"9", nil, api.ErrLong, 0, 0})
	feeds(t, madeStream(t, api.HeadTwo, 10), fed{"\xFF", nil, api.OK, 1, 0}, fed{"\xFF", nil, api.ErrLong, 0, 0})
	feeds(t, madeStream(t, api.HeadWhole, 10), fed{"\xFF", nil, api.OK, 1, 0}, fed{"\x00", nil, api.ErrLong, 0, 0})
	feeds(t, madeStream(t, api.HeadBCD, 10), fed{"\xAA", nil, api.OK, 1, 0}, fed{"\x00", nil, api.ErrHeader, 0, 0})
}

// looksAt feeds a header and a message of so many bytes to a stream that is empty, and leaves it so.
func looksAt(t *testing.T, x *both, b string, seen codes) {
	t.Helper()
	seen[x.feed(t, b)]++
	if now := wantCut(x.header, x.most, b); now.waits > 0 {
		x.feed(t, strings.Repeat("m", sizeOf(x.header, b)))
	}
	x.reset(t)
}

// TestEveryHeader: all that have two bytes, and of those with four all numbers, and every byte at every place.
func TestEveryHeader(t *testing.T) {
	for _, most := range []int{1, 9, 10, 99, 254, 255, 256, 999, 5000, 9998, 9999} {
		for _, header := range []int{api.HeadTwo, api.HeadBCD, api.HeadWhole} {
			x, seen := newBoth(t, header, most), codes{}
			for n := range 65536 {
				looksAt(t, x, two(n), seen)
			}
			seen.enough(t, 1, api.OK)
			if header != api.HeadTwo {
				seen.enough(t, 2, api.ErrHeader)
			}
			if header != api.HeadBCD || most < 9999 {
				seen.enough(t, 1, api.ErrLong)
			}
		}
		x, seen := newBoth(t, api.HeadFour, most), codes{}
		for n := range 10000 {
			looksAt(t, x, head(api.HeadFour, n), seen)
		}
		for _, b := range []string{"0000", "0001", "1234", "9999"} {
			for i := range 4 {
				for c := range 256 {
					looksAt(t, x, b[:i]+string([]byte{byte(c)})+b[i+1:], seen)
				}
			}
		}
		seen.enough(t, 1, api.OK, api.ErrHeader)
		if most < 9999 {
			seen.enough(t, 1, api.ErrLong)
		}
	}
}

// TestFeedOfAnything: streams in any pieces, and Resets between, held against the second reading.
func TestFeedOfAnything(t *testing.T) {
	r, seen := rand.New(rand.NewSource(1402)), codes{}
	for range 3000 {
		x := newBoth(t, oneOf(r, kinds...), oneOf(r, 1, 2, 10, 255, 256, 1000, 9999, 1+r.Intn(9999)))
		for range 1 + r.Intn(4) {
			for _, b := range pieces(r, bentStream(r, x.header, min(x.most, 300), r.Intn(12))) {
				seen[x.feed(t, b)]++
			}
			if r.Intn(3) > 0 {
				x.reset(t)
			}
		}
	}
	seen.enough(t, 1000, api.OK, api.ErrHeader, api.ErrLong)
}

// TestLongMessages: as long as there may be, with bytes ahead and behind.
func TestLongMessages(t *testing.T) {
	r := rand.New(rand.NewSource(1403))
	for _, header := range kinds {
		long := anyBytes(r, 9999)
		b := framed(header, "a") + framed(header, long) + head(header, 0) + framed(header, long) + "0"
		feeds(t, madeStream(t, header, 9999), fed{b, []string{"a", long, long}, api.OK, 1, 1})
		feeds(t, madeStream(t, header, 9999), fed{b[:len(b)-2], []string{"a", long}, api.OK, len(framed(header, long)) - 1, 1}, fed{long[9998:], []string{long}, api.OK, 0, 1})
		feeds(t, madeStream(t, header, 9998), fed{b, []string{"a"}, api.ErrLong, 0, 0})
		x := newBoth(t, header, 9999)
		x.feed(t, b[:len(b)/2])
		for _, c := range pieces(r, b[len(b)/2:]) {
			x.feed(t, c)
		}
	}
}

// TestResetAnywhere: behind any beginning of a stream.
func TestResetAnywhere(t *testing.T) {
	for _, header := range kinds {
		b := framed(header, "ab") + head(header, 0) + framed(header, "cde") + head(header, 0) + head(header, 8)
		for n := range len(b) + 1 {
			x := newBoth(t, header, 7)
			x.feed(t, b[:n])
			x.reset(t)
			x.reset(t)
			x.feed(t, b)
			x.feed(t, b)
			x.reset(t)
			x.feed(t, b[:n])
		}
	}
}
