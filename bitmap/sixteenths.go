package bitmap

import (
	"bytes"

	"turnstile/api"
)

// The sixteenths in ASCII.
const (
	ascii0 byte = 48 + iota
	ascii1
	ascii2
	ascii3
	ascii4
	ascii5
	ascii6
	ascii7
	ascii8
	ascii9
)

const (
	asciiA byte = 65 + iota
	asciiB
	asciiC
	asciiD
	asciiE
	asciiF
)

// The sixteenths in EBCDIC, where the letters stand ahead of the digits.
const (
	ebcdicA byte = 193 + iota
	ebcdicB
	ebcdicC
	ebcdicD
	ebcdicE
	ebcdicF
)

const (
	ebcdic0 byte = 240 + iota
	ebcdic1
	ebcdic2
	ebcdic3
	ebcdic4
	ebcdic5
	ebcdic6
	ebcdic7
	ebcdic8
	ebcdic9
)

// sixteenthsOf is the characters of an encoding, each at its worth.
func sixteenthsOf(enc int) [16]byte {
	if enc == api.EBCDIC {
		return [16]byte{
			ebcdic0, ebcdic1, ebcdic2, ebcdic3, ebcdic4, ebcdic5, ebcdic6, ebcdic7,
			ebcdic8, ebcdic9, ebcdicA, ebcdicB, ebcdicC, ebcdicD, ebcdicE, ebcdicF,
		}
	}
	return [16]byte{
		ascii0, ascii1, ascii2, ascii3, ascii4, ascii5, ascii6, ascii7,
		ascii8, ascii9, asciiA, asciiB, asciiC, asciiD, asciiE, asciiF,
	}
}

// worthOf is what a character is worth; below 0, if it is none of these.
func worthOf(characters [16]byte, c byte) int {
	return bytes.IndexByte(characters[:], c)
}
