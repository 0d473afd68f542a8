package tlv

import "turnstile/api"

const (
	mostAlone = 127 // the greatest length that one byte tells
	oneMore   = 129 // a first byte that says: one byte is the length
	twoMore   = 130
)

// lengthSize is how many bytes tell a length.
func lengthSize(n int) int {
	switch {
	case n <= mostAlone:
		return 1
	case n <= 0xFF:
		return 2
	}
	return 3
}

func appendLength(b []byte, n int) []byte {
	switch lengthSize(n) {
	case 2:
		b = append(b, oneMore)
	case 3:
		b = append(b, twoMore, byte(n>>8))
	}
	return append(b, byte(n))
}

func (r *reader) length() int {
	from := r.at
	n := int(r.next())
	switch n {
	case oneMore:
		n = int(r.next())
	case twoMore:
		n = int(r.next())<<8 | int(r.next())
	}
	// A first byte of 128, or above 130, falls here, too: no such number is told by one byte.
	must(n <= api.MaxSize && lengthSize(n) == r.at-from, api.ErrLength, from)
	return n
}
