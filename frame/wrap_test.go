package frame_test

import (
	"math/rand"
	"strings"
	"testing"

	"turnstile/api"
	"turnstile/frame"
)

func wraps(t *testing.T, header, most int, m, want string, code api.Errno) {
	t.Helper()
	if got, e := frame.Wrap(header, most, m); got != want || e != code {
		t.Errorf("F4: Wrap(%d, %d, %.60q) = %.60q, %d; must be %.60q, %d", header, most, m, got, e, want, code)
	}
}

func TestWrapByHand(t *testing.T) {
	wraps(t, api.HeadBCD, 100, "abcdefghijkl", "\x00\x12abcdefghijkl", api.OK)
	wraps(t, api.HeadWhole, 100, "abc", "\x00\x05abc", api.OK)
	wraps(t, api.HeadTwo, 100, "abc", "\x00\x03abc", api.OK)
	wraps(t, api.HeadFour, 100, "abc", "0003abc", api.OK)
	wraps(t, api.HeadTwo, 3, "abc", "\x00\x03abc", api.OK)
	wraps(t, api.HeadTwo, 2, "abc", "", api.ErrLong)
	for _, header := range kinds {
		wraps(t, header, 2, "", "", api.ErrEmpty)
		wraps(t, header, 9999, strings.Repeat("x", 10000), "", api.ErrLong)
	}
	long := strings.Repeat("x", 9876)
	wraps(t, api.HeadTwo, 9999, long, "\x26\x94"+long, api.OK)
	wraps(t, api.HeadFour, 9999, long, "9876"+long, api.OK)
	wraps(t, api.HeadBCD, 9999, long, "\x98\x76"+long, api.OK)
	wraps(t, api.HeadWhole, 9999, long, "\x26\x96"+long, api.OK)
}

func TestWrapRefusesArguments(t *testing.T) {
	for _, a := range wrongArgs() {
		for _, m := range []string{"", "abc", strings.Repeat("x", 10000)} {
			wraps(t, a[0], a[1], m, "", api.ErrArg)
		}
	}
}

// TestWrapOfEverySize: all there may be, with just so much room, and with one byte less.
func TestWrapOfEverySize(t *testing.T) {
	all := anyBytes(rand.New(rand.NewSource(1404)), 9999)
	for _, header := range kinds {
		for n := 1; n <= 9999; n++ {
			m := all[:n]
			wraps(t, header, n, m, framed(header, m), api.OK)
			wraps(t, header, 9999, m, framed(header, m), api.OK)
			if n > 1 {
				wraps(t, header, n-1, m, "", api.ErrLong)
			}
		}
	}
}
