package stan

import (
	"math/bits"

	"turnstile/api"
)

const wordBits = 64

// marks tell which of the numbers 1 to most are out. They are bits, so that many that are out are passed over at once.
type marks struct {
	words []uint64
	most  int
	many  int // that are out
}

// newMarks sets the bits behind that of most, which are no numbers': so none of them is found free.
func newMarks(most int) marks {
	words := make([]uint64, most/wordBits+1)
	words[most/wordBits] = ^uint64(0) << (most%wordBits + 1)
	return marks{words: words, most: most}
}

// Free gives one back.
func (m *marks) Free(number int) api.Errno {
	if !m.Taken(number) {
		return api.ErrFree
	}
	m.flip(number)
	m.many--
	return api.OK
}

// Taken tells whether one is out.
func (m *marks) Taken(number int) bool {
	if number < 1 || number > m.most {
		return false
	}
	return m.words[number/wordBits]&bitOf(number) != 0
}

// Len is how many are out.
func (m *marks) Len() int { return m.many }

// take marks one that is not out.
func (m *marks) take(number int) {
	m.flip(number)
	m.many++
}

// freeFrom is the first number that is not out, from one (at least 1) on up to most; false: there is none.
func (m *marks) freeFrom(number int) (int, bool) {
	ahead := bitOf(number) - 1
	for word := number / wordBits; word < len(m.words); word++ {
		if free := ^(m.words[word] | ahead); free != 0 {
			return word*wordBits + bits.TrailingZeros64(free), true
		}
		ahead = 0 // only the first word has some
	}
	return 0, false
}

func (m *marks) flip(number int) { m.words[number/wordBits] ^= bitOf(number) }

// bitOf is a number's bit in its word.
func bitOf(number int) uint64 { return 1 << (number % wordBits) }
