package pin

import (
	"strings"

	"turnstile/api"
	"turnstile/cipher"
)

const (
	leastPIN = 4
	mostPIN  = 12
	leastPAN = 13
	mostPAN  = 19

	headSize = 2                      // sixteenths ahead of the PIN: the format, and how many digits it has
	room     = 2*blockSize - headSize // sixteenths that the PIN and the filling share
	panSize  = 12                     // digits of the PAN in its block
	panAhead = "0000"                 // what stands ahead of them there
)

// layout is what a format asks of its blocks. The least sixteenth alone tells which may fill: from there on all may.
type layout struct {
	bound bool // to a PAN, whose block is added
	given bool // the filling is handed in
	least byte
}

// layoutOf is that of a format; false: there is no such format.
func layoutOf(format int) (layout, bool) {
	switch format {
	case 0:
		return layout{bound: true, least: 'F'}, true
	case 1:
		return layout{given: true, least: '0'}, true
	case 3:
		return layout{bound: true, given: true, least: 'A'}, true
	}
	return layout{}, false
}

// takes tells whether a text may be handed in to fill so many places.
func (l layout) takes(fill string, places int) bool {
	if !l.given {
		return fill == ""
	}
	return len(fill) == places && allSixteenths(fill) && l.fills(fill)
}

// filling is what stands in so many places.
func (l layout) filling(fill string, places int) string {
	if l.given {
		return fill
	}
	return strings.Repeat("F", places)
}

// fills tells whether sixteenths may stand as filling.
func (l layout) fills(s string) bool {
	for i := range len(s) {
		if s[i] < l.least { // digits come ahead of capitals as bytes too
			return false
		}
	}
	return true
}

// sum turns a block that is bound to a PAN into what is sent, and back.
func (l layout) sum(block, pan string) string {
	if !l.bound {
		return block
	}
	both, _ := cipher.Xor(block, pack(panAhead, leftOfLast(pan, panSize))) // they are of one length
	return both
}

// read is the PIN of a block's sixteenths.
func (l layout) read(s string) (string, api.Errno) {
	n := worth(s[1])
	if n < leastPIN || n > mostPIN {
		return "", api.ErrPIN
	}
	pin, filling := s[headSize:headSize+n], s[headSize+n:]
	if !allDigits(pin) || !l.fills(filling) {
		return "", api.ErrPIN
	}
	return pin, api.OK
}

// leftOfLast is so many digits of a PAN, its last one left out.
func leftOfLast(pan string, n int) string {
	last := len(pan) - 1
	return pan[last-n : last]
}

func isPIN(s string) bool { return leastPIN <= len(s) && len(s) <= mostPIN && allDigits(s) }

func isPAN(s string) bool { return leastPAN <= len(s) && len(s) <= mostPAN && allDigits(s) }
