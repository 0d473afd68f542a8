package cipher

import "math/bits"

// kind is how many parts a key has.
type kind int

const (
	none   kind = iota // no length of a key
	single             // A
	double             // A, B
	triple             // A, B, C
)

const most = int(triple)

// The weak keys, as Odd has them.
const (
	weakLow  = "\x01\x01\x01\x01\x01\x01\x01\x01"
	weakHigh = "\xFE\xFE\xFE\xFE\xFE\xFE\xFE\xFE"
	weakFull = "\xE0\xE0\xE0\xE0\xF1\xF1\xF1\xF1"
	weakBare = "\x1F\x1F\x1F\x1F\x0E\x0E\x0E\x0E"
)

// Odd is a key with each byte's last bit set so that its ones are odd.
func Odd(key string) string {
	odd := []byte(key)
	for i, c := range odd {
		if bits.OnesCount8(c)%2 == 0 {
			odd[i] = c ^ 1
		}
	}
	return string(odd)
}

// Weak tells whether a part of a key is weak.
func Weak(key string) bool {
	for i := range int(kindOf(key)) {
		switch Odd(part(key, i)) { // the lowest bits are not looked at
		case weakLow, weakHigh, weakFull, weakBare:
			return true
		}
	}
	return false
}

func kindOf(key string) kind {
	switch len(key) {
	case int(single) * size:
		return single
	case int(double) * size:
		return double
	case int(triple) * size:
		return triple
	}
	return none
}

// part is the one with the number i, from 0 on.
func part(key string, i int) string { return key[i*size : (i+1)*size] }
