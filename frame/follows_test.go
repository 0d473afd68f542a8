package frame_test

import (
	"math/rand"
	"slices"
	"testing"

	"turnstile/api"
	"turnstile/frame"
)

// F6: what follows from the promises ahead of it.

// inPieces is what a stream comes to in all that comes in these pieces; and with which of them its error was told first, from 0 on.
func inPieces(t *testing.T, header, most int, l []string) (cutting, int) {
	t.Helper()
	s := madeStream(t, header, most)
	var c cutting
	first := -1
	for i, b := range l {
		messages, e := s.Feed([]byte(b))
		c.messages = append(c.messages, messages...)
		if c.code != api.OK && e != c.code {
			t.Errorf("F6: behind error %d a Feed tells %d", c.code, e)
		}
		if c.code == api.OK && e != api.OK {
			c.code, first = e, i
		}
	}
	c.idle, c.waits = s.Idle(), s.Waits()
	return c, first
}

func sameCutting(a, b cutting) bool {
	return slices.Equal(a.messages, b.messages) && a.idle == b.idle && a.waits == b.waits && a.code == b.code
}

// wrongAt is with which byte the first wrong header of a stream is whole; it has one.
func wrongAt(header, most int, b string) int {
	n := 0
	for wantCut(header, most, b[:n]).code == api.OK {
		n++
	}
	return n - 1
}

// pieceOf is which of some pieces has the byte at a place.
func pieceOf(l []string, at int) int {
	for i, b := range l {
		if at < len(b) {
			return i
		}
		at -= len(b)
	}
	return len(l)
}

func TestAnyPieces(t *testing.T) {
	r, seen := rand.New(rand.NewSource(1406)), codes{}
	for range 1500 {
		header, most := oneOf(r, kinds...), oneOf(r, 1, 10, 60)
		b := bentStream(r, header, most, r.Intn(15))
		all, _ := inPieces(t, header, most, []string{b})
		seen[all.code]++
		for range 6 {
			l := pieces(r, b)
			c, first := inPieces(t, header, most, l)
			if !sameCutting(c, all) {
				t.Errorf("F6: kind %d, most %d: %.200q in %d pieces comes to %.300v; at once to %.300v", header, most, b, len(l), c, all)
			}
			if c.code == api.OK {
				continue
			}
			if want := pieceOf(l, wrongAt(header, most, b)); first != want {
				t.Errorf("F6: kind %d, most %d: of %.200q the pieces %.300q: the error is told with %d; must be with %d", header, most, b, l, first, want)
			}
		}
	}
	seen.enough(t, 100, api.OK, api.ErrHeader, api.ErrLong)
}

// TestEveryCut: a short stream in all pairs of pieces, and in all threes.
func TestEveryCut(t *testing.T) {
	for _, header := range kinds {
		for _, end := range []string{"", "0", head(header, 5), head(header, 9), "\xFF\xFF\xFF\xFF\xFF"} {
			b := framed(header, "abc") + head(header, 0) + framed(header, "d") + end
			all, _ := inPieces(t, header, 8, []string{b})
			for i := range len(b) + 1 {
				for j := i; j <= len(b); j++ {
					if c, _ := inPieces(t, header, 8, []string{b[:i], b[i:j], b[j:]}); !sameCutting(c, all) {
						t.Errorf("F6: kind %d: %q in pieces that end at %d, %d comes to %v; at once to %v", header, b, i, j, c, all)
					}
				}
			}
		}
	}
}

// TestWrappedAreFound: frames by Wrap, one behind the other, are found as they were.
func TestWrappedAreFound(t *testing.T) {
	r := rand.New(rand.NewSource(1407))
	for range 600 {
		header, most := oneOf(r, kinds...), oneOf(r, 1, 2, 255, 256, 9999, 1+r.Intn(9999))
		var messages []string
		b := ""
		for range r.Intn(10) {
			m := anyBytes(r, anySize(r, most))
			w, e := frame.Wrap(header, most, m)
			if e != api.OK {
				t.Errorf("F4: Wrap(%d, %d) of %d bytes: %d", header, most, len(m), e)
			}
			messages, b = append(messages, m), b+w
		}
		if c, _ := inPieces(t, header, most, pieces(r, b)); !sameCutting(c, cutting{messages: messages}) {
			t.Errorf("F6: kind %d, most %d: of %.300q in frames come %.300v", header, most, messages, c)
		}
		l, faults := frame.Split(header, most, b)
		if !slices.Equal(l[0], messages) || faults[0] != api.OK {
			t.Errorf("F6: kind %d, most %d: of %.300q in frames Split tells %.300q, %d", header, most, messages, l[0], faults[0])
		}
	}
}
