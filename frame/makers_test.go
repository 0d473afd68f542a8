package frame_test

import (
	"encoding/hex"
	"fmt"
	"math/rand"
	"strings"
	"testing"

	"turnstile/api"
	"turnstile/frame"
)

var kinds = []int{api.HeadTwo, api.HeadFour, api.HeadBCD, api.HeadWhole}

func madeStream(t *testing.T, header, most int) *frame.Stream {
	t.Helper()
	s, e := frame.New(header, most)
	if s == nil || e != api.OK {
		t.Fatalf("F1: New(%d, %d) = %v, %d", header, most, s != nil, e)
	}
	return s
}

// two is a number as two bytes.
func two(n int) string { return string([]byte{byte(n / 256), byte(n % 256)}) }

// head is the header of a message of so many bytes.
func head(header, n int) string {
	digits := fmt.Sprintf("%04d", n)
	switch header {
	case api.HeadFour:
		return digits
	case api.HeadBCD:
		b, _ := hex.DecodeString(digits)
		return string(b)
	case api.HeadWhole:
		return two(n + 2)
	}
	return two(n)
}

func framed(header int, m string) string { return head(header, len(m)) + m }

func oneOf[T any](r *rand.Rand, l ...T) T { return l[r.Intn(len(l))] }

func anyBytes(r *rand.Rand, n int) string {
	b := make([]byte, n)
	r.Read(b)
	return string(b)
}

// anySize is how many bytes a message that may have most of them has, often one of the edges.
func anySize(r *rand.Rand, most int) int {
	return oneOf(r, 1, most, 1+r.Intn(most), 1+r.Intn(min(most, 20)), 1+r.Intn(min(most, 300)))
}

// wrongHead is a header that may be wrong, by its kind, or by what it tells.
func wrongHead(r *rand.Rand, header, most int) string {
	long := head(header, min(most+1+r.Intn(3), 9999))
	b := []byte(head(header, 1+r.Intn(most)))
	b[r.Intn(len(b))] = byte(r.Intn(256))
	return oneOf(r, long, string(b), anyBytes(r, len(b)), strings.Repeat("\x00", len(b)-1)+"\x01")
}

// bentStream is frames and idle signs one behind the other, and mostly something wrong among them, or a frame that is not whole.
func bentStream(r *rand.Rand, header, most, frames int) string {
	var b strings.Builder
	for range frames {
		switch r.Intn(12) {
		case 0:
			b.WriteString(wrongHead(r, header, most))
		case 1, 2:
			b.WriteString(head(header, 0))
		default:
			b.WriteString(framed(header, anyBytes(r, anySize(r, most))))
		}
	}
	s := b.String()
	return oneOf(r, s, s[:r.Intn(len(s)+1)])
}

// pieces are a text cut anywhere, some of them empty.
func pieces(r *rand.Rand, b string) []string {
	longest := oneOf(r, 1, 2, 5, 50, 20000)
	var l []string
	for b != "" {
		n := min(r.Intn(longest+1), len(b))
		l, b = append(l, b[:n]), b[n:]
	}
	return l
}

// codes counts which errors were seen.
type codes map[api.Errno]int

// enough tells of errors that were seen too seldom for a test to tell much.
func (c codes) enough(t *testing.T, least int, all ...api.Errno) {
	t.Helper()
	for _, e := range all {
		if c[e] < least {
			t.Errorf("the test saw error %d only %d times", e, c[e])
		}
	}
}
