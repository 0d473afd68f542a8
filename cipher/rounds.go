package cipher

import "slices"

const (
	rounds   = 16
	groups   = 8  // of a round key, one a box
	keyHalf  = 28 // bits
	textHalf = 32
)

// roundKey is its 48 bits in groups of six, as the boxes take them.
type roundKey [groups]uint8

// roundKeys are those of one part of a key.
type roundKeys [rounds]roundKey

func roundKeysOf(key uint64) roundKeys {
	var keys roundKeys
	h := cut(take(key, 64, tableK1()), keyHalf)
	for i := range keys {
		h = h.turned(places(i+1), keyHalf)
		keys[i] = inGroups(take(h.join(keyHalf), 2*keyHalf, tableK2()))
	}
	return keys
}

// places is by how many the halves of a key are turned for a round, from 1 on.
func places(round int) int {
	switch round {
	case 1, 2, 9, 16:
		return 1
	}
	return 2
}

// inGroups is 48 bits as eight groups of six.
func inGroups(row uint64) [groups]uint8 {
	var g [groups]uint8
	for i := range g {
		g[i] = uint8(row >> (6 * (groups - 1 - i)) & 63)
	}
	return g
}

// encrypt is one block under one part of a key.
func (k *roundKeys) encrypt(w uint64) uint64 {
	s := allBoxes()
	h := cut(take(w, 64, tableIn()), textHalf)
	for _, key := range k {
		h = halves{h[1], h[0] ^ mixed(h[1], key, &s)}
	}
	h = halves{h[1], h[0]}
	return take(h.join(textHalf), 64, tableOut())
}

// decrypt is the same with the round keys the other way round.
func (k *roundKeys) decrypt(w uint64) uint64 {
	back := *k
	slices.Reverse(back[:])
	return back.encrypt(w)
}

// mixed is F of the chapter.
func mixed(r uint32, key roundKey, s *boxes) uint32 {
	var row uint64
	for i, g := range inGroups(take(uint64(r), textHalf, tableWide())) {
		row = row<<4 | uint64(s.at(i, g^key[i]))
	}
	return uint32(take(row, textHalf, tableP()))
}

// at is what the box i has for six bits: the outer two say the row, the inner four the place.
func (s *boxes) at(i int, six uint8) uint8 {
	return s[i][six>>4&2|six&1][six>>1&15]
}
