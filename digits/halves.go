package digits

import "turnstile/api"

// The filling of an odd number of characters.
const (
	fillAhead  = 0
	fillBehind = 15
)

// The sign '=' stands 13 behind '0', as its half does behind 0: so one rule turns
// every character into its half and back.

// joinHalves makes bytes of characters; an odd number of them is filled behind.
func joinHalves(s string) string {
	out := make([]byte, 0, len(s)/2+1)
	for i := 0; i < len(s); i += 2 {
		low := byte(fillBehind)
		if i+1 < len(s) {
			low = s[i+1] - '0'
		}
		out = append(out, (s[i]-'0')<<4|low)
	}
	return string(out)
}

// splitHalves reads the n characters that all of b is made of, and each of which must fit.
func splitHalves(enc int, b string, n int, fits func(byte) bool) (string, api.Errno, int) {
	hole, filling := fillingOf(enc, n)
	out := make([]byte, 0, n)
	for at := range len(b) {
		e := api.OK
		for i, half := range [2]byte{b[at] >> 4, b[at] & 15} {
			if 2*at+i == hole {
				// A character that is none counts ahead of the filling, on whichever side of it.
				if half != filling && e == api.OK {
					e = api.ErrPad
				}
				continue
			}
			c := '0' + half
			if !fits(c) {
				e = api.ErrChar
			}
			out = append(out, c)
		}
		if e != api.OK {
			return "", e, at
		}
	}
	return string(out), api.OK, 0
}

// fillingOf is which half of n characters' bytes is filling (-1: none), and what it must be.
func fillingOf(enc, n int) (int, byte) {
	switch {
	case n%2 == 0:
		return -1, 0
	case enc == api.BCD:
		return 0, fillAhead
	}
	return n, fillBehind
}
