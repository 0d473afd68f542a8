package bitmap

import "turnstile/api"

// half is one half of a map, the highest byte first.
type half [8]byte

// halfOf is the half with these bits.
func halfOf(bits uint64) half {
	var h half
	for i := range h {
		h[i] = byte(bits >> (56 - 8*i))
	}
	return h
}

// bits is halfOf turned round.
func (h half) bits() uint64 {
	var bits uint64
	for _, c := range h {
		bits = bits<<8 | uint64(c)
	}
	return bits
}

// write is the half in one of the three encodings.
func (h half) write(enc int) string {
	if enc == api.BINARY {
		return string(h[:])
	}
	characters := sixteenthsOf(enc)
	var out [2 * len(h)]byte
	for i, c := range h {
		out[2*i], out[2*i+1] = characters[c>>4], characters[c&15]
	}
	return string(out[:])
}

// readHalf reads one from the front of b; with an error: its place.
func readHalf(enc int, b string) (half, api.Errno, int) {
	if enc == api.BINARY {
		return readBytes(b)
	}
	return readSixteenths(sixteenthsOf(enc), b)
}

// readBytes reads one that is written as it is.
func readBytes(b string) (half, api.Errno, int) {
	var h half
	if n := copy(h[:], b); n < len(h) {
		return half{}, api.ErrShort, n
	}
	return h, api.OK, 0
}

// readSixteenths reads one in these characters.
func readSixteenths(characters [16]byte, b string) (half, api.Errno, int) {
	var h half
	for i := range 2 * len(h) {
		if i == len(b) {
			return half{}, api.ErrShort, i
		}
		worth := worthOf(characters, b[i])
		if worth < 0 {
			return half{}, api.ErrChar, i
		}
		h[i/2] = h[i/2]<<4 | byte(worth)
	}
	return h, api.OK, 0
}
