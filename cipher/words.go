package cipher

import "turnstile/api"

const size = 8 // bytes of a block, and of a part of a key

// wordOf is 8 bytes as a row of bits.
func wordOf(s string) uint64 {
	var w uint64
	for i := range size {
		w = w<<8 | uint64(s[i])
	}
	return w
}

// appendWord is out with 8 bytes more.
func appendWord(out []byte, w uint64) []byte {
	for left := 64 - 8; left >= 0; left -= 8 {
		out = append(out, byte(w>>left))
	}
	return out
}

// eachBlock is what turn makes of the blocks of s, from the front.
func eachBlock(s string, turn func(uint64) uint64) (string, api.Errno) {
	if len(s)%size != 0 {
		return "", api.ErrBlock
	}
	out := make([]byte, 0, len(s))
	for at := 0; at < len(s); at += size {
		out = appendWord(out, turn(wordOf(s[at:at+size])))
	}
	return string(out), api.OK
}

// take is the bits of a row that a table takes; the row has so many, and stands in the lowest ones.
func take(row uint64, wide int, table []uint8) uint64 {
	var taken uint64
	for _, n := range table {
		taken = taken<<1 | row>>(wide-int(n))&1
	}
	return taken
}

// halves are the two of a row of bits.
type halves [2]uint32

// cut is a row's two halves, each of so many bits.
func cut(row uint64, wide int) halves {
	return halves{uint32(row >> wide), uint32(row & (1<<wide - 1))}
}

// join is the two halves, each of so many bits, one behind the other.
func (h halves) join(wide int) uint64 { return uint64(h[0])<<wide | uint64(h[1]) }

// turned is both halves, each of so many bits, turned to the left.
func (h halves) turned(by, wide int) halves {
	for i, x := range h {
		h[i] = (x<<by | x>>(wide-by)) & (1<<wide - 1)
	}
	return h
}
