package frame_test

import (
	"encoding/binary"
	"encoding/hex"
	"slices"
	"strconv"
	"strings"
	"testing"

	"turnstile/api"
	"turnstile/frame"
)

// A second reading of the chapter: it looks at all of a stream, from its beginning on, each time that it is asked.

// cutting is what a stream comes to.
type cutting struct {
	messages []string
	idle     int
	waits    int
	code     api.Errno
}

// sizeOf is how many bytes follow a header; below 0: it is wrong.
func sizeOf(header int, b string) int {
	digits := b
	switch header {
	case api.HeadTwo:
		return int(binary.BigEndian.Uint16([]byte(b)))
	case api.HeadWhole:
		return int(binary.BigEndian.Uint16([]byte(b))) - 2
	case api.HeadBCD:
		digits = hex.EncodeToString([]byte(b))
	}
	if strings.Trim(digits, "0123456789") != "" {
		return -1
	}
	n, err := strconv.Atoi(digits)
	if err != nil {
		return -1
	}
	return n
}

func wantCut(header, most int, b string) cutting {
	wide := 2
	if header == api.HeadFour {
		wide = 4
	}
	var c cutting
	for len(b) >= wide {
		n := sizeOf(header, b[:wide])
		if n < 0 {
			c.code = api.ErrHeader
			return c
		}
		if n > most {
			c.code = api.ErrLong
			return c
		}
		if len(b) < wide+n {
			break
		}
		if n == 0 {
			c.idle++
		} else {
			c.messages = append(c.messages, b[wide:wide+n])
		}
		b = b[wide+n:]
	}
	c.waits = len(b)
	return c
}

// both is a Stream, and what the chapter says of one.
type both struct {
	s            *frame.Stream
	header, most int
	stream       string
	idle         int // of streams that ended with a Reset
}

func newBoth(t *testing.T, header, most int) *both {
	t.Helper()
	x := &both{s: madeStream(t, header, most), header: header, most: most}
	x.stands(t)
	return x
}

// feed feeds bytes, and holds what is answered against what the chapter says.
func (x *both) feed(t *testing.T, b string) api.Errno {
	t.Helper()
	ahead := wantCut(x.header, x.most, x.stream)
	if ahead.code == api.OK {
		x.stream += b
	}
	now := wantCut(x.header, x.most, x.stream)
	want := now.messages[len(ahead.messages):]
	got, e := x.s.Feed([]byte(b))
	if e != now.code || !slices.Equal(got, want) {
		t.Errorf("F2: kind %d, most %d, a stream of %d bytes: Feed(%.200q) = %.300q, %d; must be %.300q, %d", x.header, x.most, len(x.stream), b, got, e, want, now.code)
	}
	x.stands(t)
	return e
}

func (x *both) reset(t *testing.T) {
	t.Helper()
	x.idle += wantCut(x.header, x.most, x.stream).idle
	x.stream = ""
	x.s.Reset()
	x.stands(t)
}

// stands holds Waits and Idle against what the chapter says; twice, since asking changes nothing.
func (x *both) stands(t *testing.T) {
	t.Helper()
	now := wantCut(x.header, x.most, x.stream)
	for range 2 {
		if n := x.s.Waits(); n != now.waits {
			t.Errorf("F3: kind %d, most %d, a stream of %d bytes: Waits() = %d; must be %d", x.header, x.most, len(x.stream), n, now.waits)
		}
		if n := x.s.Idle(); n != x.idle+now.idle {
			t.Errorf("F3: kind %d, most %d, a stream of %d bytes: Idle() = %d; must be %d", x.header, x.most, len(x.stream), n, x.idle+now.idle)
		}
	}
}
