// Package digits: digits and characters as bytes: layer 1: see shared/doc/01-digits.md.
package digits

import (
	"strings"

	"turnstile/api"
)

// Width is how many bytes so many characters have.
func Width(enc, n int) int {
	if n < 0 {
		return 0
	}
	switch enc {
	case api.BCD, api.BCDR:
		return n/2 + n%2 // n+1 would go round at the greatest number
	case api.ASCII, api.EBCDIC, api.BINARY:
		return n
	}
	return 0
}

// Pack writes characters as bytes.
func Pack(enc int, s string) (string, api.Errno) {
	fits, ok := charactersOf(enc)
	if !ok {
		return "", api.ErrArg
	}
	if firstUnfit(s, fits) < len(s) {
		return "", api.ErrChar
	}
	switch enc {
	case api.EBCDIC:
		return toEBCDIC(s), api.OK
	case api.BCD:
		if len(s)%2 == 1 {
			s = "0" + s // its half is that of the filling
		}
		fallthrough
	case api.BCDR:
		return joinHalves(s), api.OK
	}
	return strings.Clone(s), api.OK
}

// Unpack reads so many characters from the front; with an error: its place.
func Unpack(enc int, b string, n int) (string, api.Errno, int) {
	fits, ok := charactersOf(enc)
	if !ok || n < 0 {
		return "", api.ErrArg, 0
	}
	width := Width(enc, n)
	if len(b) < width {
		return "", api.ErrShort, len(b)
	}
	return read(enc, b[:width], n, fits)
}

// read takes the n characters that all of b is made of, and each of which must fit.
func read(enc int, b string, n int, fits func(byte) bool) (string, api.Errno, int) {
	switch enc {
	case api.BCD, api.BCDR:
		return splitHalves(enc, b, n, fits)
	case api.EBCDIC:
		b = fromEBCDIC(b)
		fallthrough
	case api.ASCII:
		if at := firstUnfit(b, fits); at < len(b) {
			return "", api.ErrChar, at
		}
	}
	return strings.Clone(b), api.OK, 0
}

// charactersOf tells which bytes are characters of an encoding; false: it is none.
func charactersOf(enc int) (func(byte) bool, bool) {
	switch enc {
	case api.ASCII, api.EBCDIC:
		return isSign, true
	case api.BCD, api.BCDR:
		return isHalf, true
	case api.BINARY:
		return isByte, true
	}
	return nil, false
}

func isDigit(c byte) bool { return '0' <= c && c <= '9' }

func isHalf(c byte) bool { return isDigit(c) || c == '=' }

func isSign(c byte) bool { return firstSign <= c && c <= lastSign }

func isByte(byte) bool { return true }

// firstUnfit is the place of the first byte that does not fit: the end, if all do.
func firstUnfit(s string, fits func(byte) bool) int {
	for i := range len(s) {
		if !fits(s[i]) {
			return i
		}
	}
	return len(s)
}
