package digits

import (
	"strconv"
	"strings"

	"turnstile/api"
)

// mostDigits of any kind fit in an int; one digit more may not.
const mostDigits = 18

// Number is what digits say.
func Number(s string) (int, api.Errno) {
	if s == "" || len(s) > mostDigits {
		return 0, api.ErrArg
	}
	if firstUnfit(s, isDigit) < len(s) {
		return 0, api.ErrChar
	}
	n := 0
	for i := range len(s) {
		n = 10*n + int(s[i]-'0')
	}
	return n, api.OK
}

// Write is a number in so many digits.
func Write(n, width int) (string, api.Errno) {
	if n < 0 || width < 1 || width > mostDigits {
		return "", api.ErrArg
	}
	s := strconv.Itoa(n)
	if len(s) > width {
		return "", api.ErrOver
	}
	return strings.Repeat("0", width-len(s)) + s, api.OK
}

// Prefix is a length, in front of what has it.
func Prefix(enc, digits, n int) (string, api.Errno) {
	if !mayPrefix(enc, digits) || n < 0 {
		return "", api.ErrArg
	}
	s, e := Write(n, digits)
	if e != api.OK {
		return "", e
	}
	if enc == api.BINARY {
		return highestFirst(n, prefixWidth(enc, digits)), api.OK
	}
	return Pack(enc, s)
}

// Length reads one: it, and how many bytes it has; with an error: its place.
func Length(enc, digits int, b string) (int, api.Errno, int) {
	if !mayPrefix(enc, digits) {
		return 0, api.ErrArg, 0
	}
	width := prefixWidth(enc, digits)
	if len(b) < width {
		return 0, api.ErrShort, len(b)
	}
	b = b[:width]
	if enc == api.BINARY {
		return binaryLength(b, digits)
	}
	s, e, at := read(enc, b, digits, isDigit)
	if e != api.OK {
		return 0, e, at
	}
	n, e := Number(s)
	return n, e, width
}

// mayPrefix tells whether a length may have so many digits in an encoding.
func mayPrefix(enc, digits int) bool {
	switch enc {
	case api.ASCII, api.BCD, api.EBCDIC, api.BINARY:
		return 1 <= digits && digits <= 4
	}
	return false
}

// prefixWidth is how many bytes a length has: in binary a byte holds two digits, as in BCD.
func prefixWidth(enc, digits int) int {
	if enc == api.BINARY {
		enc = api.BCD
	}
	return Width(enc, digits)
}

func binaryLength(b string, digits int) (int, api.Errno, int) {
	n := 0
	for i := range len(b) {
		n = n<<8 | int(b[i])
	}
	if _, e := Write(n, digits); e != api.OK {
		return 0, e, 0
	}
	return n, api.OK, len(b)
}

func highestFirst(n, width int) string {
	out := make([]byte, width)
	for i := width - 1; i >= 0; i-- {
		out[i] = byte(n)
		n >>= 8
	}
	return string(out)
}

// Count counts on, and stays at the most.
func Count(n, by, most int) int {
	n, by, most = max(n, 0), max(by, 0), max(most, 0)
	if by > most-n { // n+by might go round
		return most
	}
	return n + by
}
