package digits

import (
	"strings"

	"turnstile/api"
)

const sixteenths = "0123456789ABCDEF"

// Hex writes bytes in sixteenths.
func Hex(b string) string {
	out := make([]byte, 0, 2*len(b))
	for i := range len(b) {
		out = append(out, sixteenths[b[i]>>4], sixteenths[b[i]&15])
	}
	return string(out)
}

// Unhex reads them; with an error: its place.
func Unhex(s string) (string, api.Errno, int) {
	if at := firstUnfit(s, isSixteenth); at < len(s) {
		return "", api.ErrChar, at
	}
	if len(s)%2 == 1 {
		return "", api.ErrShort, len(s)
	}
	out := make([]byte, 0, len(s)/2)
	for i := 0; i < len(s); i += 2 {
		out = append(out, sixteenth(s[i])<<4|sixteenth(s[i+1]))
	}
	return string(out), api.OK, 0
}

func isSixteenth(c byte) bool { return strings.IndexByte(sixteenths, c) >= 0 }

func sixteenth(c byte) byte { return byte(strings.IndexByte(sixteenths, c)) }
