package pin_test

import (
	"crypto/des"
	"encoding/hex"
	"fmt"
	"math"
	"math/rand"
	"regexp"
	"strconv"
	"strings"

	"turnstile/api"
)

// A plain second reading of the chapter, by patterns, numbers of 64 bits and the library's own cipher, is held against the package.

const (
	somePAN = "43219876543210987"
	someKey = "sixteen bytes ok"
	other   = "another sixteen."
)

var (
	onePIN = regexp.MustCompile(`\A[0-9]{4,12}\z`)
	onePAN = regexp.MustCompile(`\A[0-9]{13,19}\z`)

	// What may fill, by formats.
	fillClass = map[int]string{0: "F", 1: "[0-9A-F]", 3: "[A-F]"}
	fills     = map[int]*regexp.Regexp{0: regexp.MustCompile(`\A\z`), 1: regexp.MustCompile(`\A[0-9A-F]*\z`), 3: regexp.MustCompile(`\A[A-F]*\z`)}

	openedBlocks = openedPatterns()
)

// openedPatterns are the sixteenths of blocks, by formats and by how many digits the PIN has.
func openedPatterns() map[[2]int]*regexp.Regexp {
	all := map[[2]int]*regexp.Regexp{}
	for format, class := range fillClass {
		for n := 4; n <= 12; n++ {
			all[[2]int{format, n}] = regexp.MustCompile(fmt.Sprintf(`\A%X%X([0-9]{%d})%s{%d}\z`, format, n, n, class, 14-n))
		}
	}
	return all
}

// withPAN is sixteenths of a block and of the PAN's block, added.
func withPAN(sixteenths, pan string) string {
	a, err := strconv.ParseUint(sixteenths, 16, 64)
	if err != nil {
		panic(err)
	}
	b, err := strconv.ParseUint("0000"+pan[len(pan)-13:len(pan)-1], 16, 64)
	if err != nil {
		panic(err)
	}
	return fmt.Sprintf("%016X", a^b)
}

func wantBlock(format int, pin, pan, fill string) (string, api.Errno) {
	allowed, known := fills[format]
	if !known {
		return "", api.ErrFormat
	}
	if !onePIN.MatchString(pin) {
		return "", api.ErrPIN
	}
	if format != 1 && !onePAN.MatchString(pan) {
		return "", api.ErrPAN
	}
	if !allowed.MatchString(fill) || format != 0 && len(fill) != 14-len(pin) {
		return "", api.ErrFill
	}
	if format == 0 {
		fill = "FFFFFFFFFF"[:14-len(pin)]
	}
	s := fmt.Sprintf("%X%X%s%s", format, len(pin), pin, fill)
	if format != 1 {
		s = withPAN(s, pan)
	}
	return bytesOf(s), api.OK
}

func wantOpen(format int, block, pan string) (string, api.Errno) {
	if _, known := fills[format]; !known || len(block) != 8 {
		return "", api.ErrFormat
	}
	s := fmt.Sprintf("%X", block)
	if s[:1] != strconv.Itoa(format) {
		return "", api.ErrFormat
	}
	if format != 1 {
		if !onePAN.MatchString(pan) {
			return "", api.ErrPAN
		}
		s = withPAN(s, pan)
	}
	for n := 4; n <= 12; n++ {
		if m := openedBlocks[[2]int{format, n}].FindStringSubmatch(s); m != nil {
			return m[1], api.OK
		}
	}
	return "", api.ErrPIN
}

func wantSeal(key string, format int, pin, pan, fill string) (string, api.Errno) {
	if len(key) != 16 {
		return "", api.ErrKey
	}
	s, e := wantBlock(format, pin, pan, fill)
	if e != api.OK {
		return "", e
	}
	return encrypted(key, s), api.OK
}

func wantUnseal(key string, format int, block, pan string) (string, api.Errno) {
	if len(key) != 16 {
		return "", api.ErrKey
	}
	if len(block) != 8 {
		return "", api.ErrFormat
	}
	return wantOpen(format, decrypted(key, block), pan)
}

func wantMove(from, to string, old, format int, block, pan, fill string) (string, api.Errno) {
	if len(from) != 16 || len(to) != 16 {
		return "", api.ErrKey
	}
	pin, e := wantUnseal(from, old, block, pan)
	if e != api.OK {
		return "", e
	}
	return wantSeal(to, format, pin, pan, fill)
}

func wantValue(key, pan, index, pin string) (string, api.Errno) {
	if len(key) != 16 {
		return "", api.ErrKey
	}
	if !onePAN.MatchString(pan) {
		return "", api.ErrPAN
	}
	if !onePIN.MatchString(pin) {
		return "", api.ErrPIN
	}
	if len(index) != 1 || !strings.Contains("123456", index) {
		return "", api.ErrArg
	}
	s := fmt.Sprintf("%X", encrypted(key, bytesOf(pan[len(pan)-12:len(pan)-1]+index+pin[:4])))
	row := ""
	for _, c := range s {
		if c <= '9' {
			row += string(c)
		}
	}
	for _, c := range s {
		if c > '9' {
			row += string(c - 'A' + '0')
		}
	}
	return row[:4], api.OK
}

func encrypted(key, block string) string {
	b, err := des.NewTripleDESCipher([]byte(key + key[:8]))
	if err != nil {
		panic(err)
	}
	out := make([]byte, 8)
	b.Encrypt(out, []byte(block))
	return string(out)
}

func decrypted(key, block string) string {
	b, err := des.NewTripleDESCipher([]byte(key + key[:8]))
	if err != nil {
		panic(err)
	}
	out := make([]byte, 8)
	b.Decrypt(out, []byte(block))
	return string(out)
}

// bytesOf is a text that is told in sixteenths.
func bytesOf(sixteenths string) string {
	b, err := hex.DecodeString(sixteenths)
	if err != nil {
		panic(err)
	}
	return string(b)
}

func oneOf(r *rand.Rand, chars string, n int) string {
	b := make([]byte, n)
	for i := range b {
		b[i] = chars[r.Intn(len(chars))]
	}
	return string(b)
}

func randomPIN(r *rand.Rand) string { return oneOf(r, "0123456789", 4+r.Intn(9)) }

func randomPAN(r *rand.Rand) string { return oneOf(r, "0123456789", 13+r.Intn(7)) }

func randomText(r *rand.Rand, n int) string {
	b := make([]byte, n)
	r.Read(b)
	return string(b)
}

// randomFill is a right filling, of a format, for a PIN of n digits.
func randomFill(r *rand.Rand, format, n int) string {
	switch format {
	case 1:
		return oneOf(r, "0123456789ABCDEF", 14-n)
	case 3:
		return oneOf(r, "ABCDEF", 14-n)
	}
	return ""
}

// formats are those that there are.
func formats() []int { return []int{0, 1, 3} }

// manyFormats are those and such as there are not; some are like one that there is in their lowest bits.
func manyFormats() []int {
	l := []int{math.MinInt, math.MinInt + 1, math.MinInt + 3, -256, -255, -16, -1, 256, 257, 259, 1 << 32, 1<<32 + 1, math.MaxInt - 1, math.MaxInt}
	for n := range 70 {
		l = append(l, n)
	}
	return l
}

// withByte is a text with another byte at a place.
func withByte(s string, at int, c byte) string { return s[:at] + string([]byte{c}) + s[at+1:] }
