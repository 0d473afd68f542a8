package bitmap

import "turnstile/api"

// Encode writes it.
func Encode(enc int, m Map) (string, api.Errno) {
	if widthOf(enc) == 0 || !m.Right() {
		return "", api.ErrArg
	}
	if m.Second == 0 {
		return halfOf(m.First).write(enc), api.OK
	}
	return halfOf(m.First|highest).write(enc) + halfOf(m.Second).write(enc), api.OK
}

// Decode reads it from the front: it, and how many bytes it has; with an error: its place.
func Decode(enc int, b string) (Map, api.Errno, int) {
	width := widthOf(enc)
	if width == 0 {
		return Map{}, api.ErrArg, 0
	}
	h, e, at := readHalf(enc, b)
	if e != api.OK {
		return Map{}, e, at
	}
	first := h.bits()
	if first&highest == 0 {
		return Map{First: first}, api.OK, width
	}
	h, e, at = readHalf(enc, b[width:])
	if e != api.OK {
		return Map{}, e, width + at
	}
	second := h.bits()
	// A second half of nothing would be a second text of a map that has none.
	if second&highest != 0 || second == 0 {
		return Map{}, api.ErrMap, width
	}
	return Map{First: first &^ highest, Second: second}, api.OK, 2 * width
}

// widthOf is how many bytes a half takes; 0, if maps have no such encoding.
func widthOf(enc int) int {
	switch enc {
	case api.BINARY:
		return len(half{})
	case api.ASCII, api.EBCDIC:
		return 2 * len(half{})
	}
	return 0
}
