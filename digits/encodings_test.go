package digits_test

import (
	"math"
	"strings"
	"testing"

	"turnstile/api"
	"turnstile/digits"
)

// encodings are all that there are; noEncodings stand around them and at the ends.
var (
	encodings   = []int{api.ASCII, api.BCD, api.BCDR, api.EBCDIC, api.BINARY}
	noEncodings = []int{math.MinInt, -1, 0, 6, 7, 255, 257, math.MaxInt}
)

// ebcdicOf is the document's table, written another way than the program's.
func ebcdicOf() map[byte]byte {
	table := map[byte]byte{' ': 0x40}
	for _, run := range []struct {
		signs string
		first byte
	}{
		{"0123456789", 0xF0},
		{"ABCDEFGHI", 0xC1}, {"JKLMNOPQR", 0xD1}, {"STUVWXYZ", 0xE2},
		{"abcdefghi", 0x81}, {"jklmnopqr", 0x91}, {"stuvwxyz", 0xA2},
		{"!", 0x5A}, {")", 0x5D}, {":", 0x7A}, {"\\", 0xE0},
		{"\"", 0x7F}, {"*", 0x5C}, {";", 0x5E}, {"]", 0xBB},
		{"#", 0x7B}, {"+", 0x4E}, {"<", 0x4C}, {"^", 0xB0},
		{"$", 0x5B}, {",", 0x6B}, {"=", 0x7E}, {"_", 0x6D},
		{"%", 0x6C}, {"-", 0x60}, {">", 0x6E}, {"`", 0x79},
		{"&", 0x50}, {".", 0x4B}, {"?", 0x6F}, {"{", 0xC0},
		{"'", 0x7D}, {"/", 0x61}, {"@", 0x7C}, {"|", 0x4F},
		{"(", 0x4D}, {"[", 0xBA}, {"}", 0xD0}, {"~", 0xA1},
	} {
		for i := range len(run.signs) {
			table[run.signs[i]] = run.first + byte(i)
		}
	}
	return table
}

// isCharacter is what the chapter's words say of each encoding.
func isCharacter(enc int, c byte) bool {
	switch enc {
	case api.ASCII, api.EBCDIC:
		return c >= 32 && c <= 126
	case api.BCD, api.BCDR:
		return strings.IndexByte("0123456789=", c) >= 0
	}
	return true
}

func TestWidth(t *testing.T) {
	for _, c := range []struct{ enc, n, want int }{
		{api.ASCII, 0, 0}, {api.ASCII, 1, 1}, {api.ASCII, 7, 7}, {api.EBCDIC, 7, 7}, {api.BINARY, 7, 7},
		{api.BCD, 0, 0}, {api.BCD, 1, 1}, {api.BCD, 2, 1}, {api.BCD, 3, 2}, {api.BCD, 4, 2},
		{api.BCDR, 0, 0}, {api.BCDR, 1, 1}, {api.BCDR, 2, 1}, {api.BCDR, 3, 2}, {api.BCDR, 37, 19},
		{api.ASCII, math.MaxInt, math.MaxInt}, {api.EBCDIC, math.MaxInt, math.MaxInt}, {api.BINARY, math.MaxInt, math.MaxInt},
		{api.BCD, math.MaxInt, math.MaxInt/2 + 1}, {api.BCDR, math.MaxInt, math.MaxInt/2 + 1},
		{api.BCD, math.MaxInt - 1, math.MaxInt / 2}, {api.BCDR, math.MaxInt - 1, math.MaxInt / 2},
	} {
		if n := digits.Width(c.enc, c.n); n != c.want {
			t.Errorf("1.1: Width(%d, %d) = %d, want %d", c.enc, c.n, n, c.want)
		}
	}
	for _, enc := range encodings {
		for _, n := range []int{-1, -2, math.MinInt, math.MinInt + 1} {
			if w := digits.Width(enc, n); w != 0 {
				t.Errorf("1.1: Width(%d, %d) = %d, want 0", enc, n, w)
			}
		}
	}
	for _, enc := range noEncodings {
		for _, n := range []int{math.MinInt, -1, 0, 1, 5, math.MaxInt} {
			if w := digits.Width(enc, n); w != 0 {
				t.Errorf("1.1: Width(%d, %d) = %d, want 0", enc, n, w)
			}
		}
	}
}

func TestPack(t *testing.T) {
	for _, c := range []struct {
		enc     int
		s, want string
		e       api.Errno
	}{
		{api.BCD, "123", "\x01\x23", api.OK}, {api.BCD, "1234", "\x12\x34", api.OK}, {api.BCD, "=", "\x0D", api.OK},
		{api.BCD, "4=1", "\x04\xD1", api.OK}, {api.BCD, "==", "\xDD", api.OK}, {api.BCD, "0", "\x00", api.OK},
		{api.BCDR, "123", "\x12\x3F", api.OK}, {api.BCDR, "4=1", "\x4D\x1F", api.OK}, {api.BCDR, "12", "\x12", api.OK},
		{api.BCDR, "=", "\xDF", api.OK}, {api.BCDR, "0", "\x0F", api.OK},
		{api.EBCDIC, "A1 [\\", "\xC1\xF1\x40\xBA\xE0", api.OK}, {api.ASCII, " ~", " ~", api.OK}, {api.BINARY, "\x00\x7F\xFF", "\x00\x7F\xFF", api.OK},
		{api.BCD, "1A", "", api.ErrChar}, {api.BCD, "123x", "", api.ErrChar}, {api.BCD, "x23", "", api.ErrChar}, {api.BCDR, "12?", "", api.ErrChar},
		{api.ASCII, "abc\n", "", api.ErrChar}, {api.EBCDIC, "abc\xC1", "", api.ErrChar}, {api.ASCII, "\x80", "", api.ErrChar},
	} {
		if b, e := digits.Pack(c.enc, c.s); b != c.want || e != c.e {
			t.Errorf("1.2: Pack(%d, %q) = %x, %d, want %x, %d", c.enc, c.s, b, e, c.want, c.e)
		}
	}
	for _, enc := range encodings {
		if b, e := digits.Pack(enc, ""); b != "" || e != api.OK {
			t.Errorf("1.2: Pack(%d, \"\") = %x, %d", enc, b, e)
		}
	}
	for _, enc := range noEncodings {
		for _, s := range []string{"", "1", "\n"} {
			if b, e := digits.Pack(enc, s); b != "" || e != api.ErrArg {
				t.Errorf("1.2: Pack(%d, %q) = %x, %d, want ErrArg", enc, s, b, e)
			}
		}
	}
}

// TestPackOfEveryByte: a byte is a character or it is not, wherever it stands.
func TestPackOfEveryByte(t *testing.T) {
	table := ebcdicOf()
	for _, enc := range encodings {
		for i := range 256 {
			c := byte(i)
			for _, s := range []string{string([]byte{c}), string([]byte{'7', c}), string([]byte{c, '7', '7'})} {
				b, e := digits.Pack(enc, s)
				if !isCharacter(enc, c) {
					if b != "" || e != api.ErrChar {
						t.Errorf("1.2: Pack(%d, %q) = %x, %d, want ErrChar", enc, s, b, e)
					}
					continue
				}
				if e != api.OK || len(b) != digits.Width(enc, len(s)) {
					t.Errorf("1.2: Pack(%d, %q) = %x, %d", enc, s, b, e)
				}
				if enc == api.EBCDIC && len(s) == 1 && b != string([]byte{table[c]}) {
					t.Errorf("1.2: Pack(EBCDIC, %q) = %x, want %x", s, b, table[c])
				}
				if (enc == api.ASCII || enc == api.BINARY) && b != s {
					t.Errorf("1.2: Pack(%d, %q) = %q", enc, s, b)
				}
			}
		}
	}
}

type unpackCase struct {
	enc  int
	b    string
	n    int
	want string
	e    api.Errno
	at   int
}

func checkUnpack(t *testing.T, c unpackCase) {
	t.Helper()
	if s, e, at := digits.Unpack(c.enc, c.b, c.n); s != c.want || e != c.e || at != c.at {
		t.Errorf("1.3: Unpack(%d, %x, %d) = %q, %d, %d, want %q, %d, %d", c.enc, c.b, c.n, s, e, at, c.want, c.e, c.at)
	}
}

func TestUnpack(t *testing.T) {
	for _, c := range []unpackCase{
		{api.BCD, "\x01\x23\xFF", 3, "123", api.OK, 0},
		{api.BCD, "\x12\x34", 4, "1234", api.OK, 0},
		{api.BCD, "\x0D\x1D", 3, "=1=", api.OK, 0},
		{api.BCD, "\x12\xAA", 2, "12", api.OK, 0},
		{api.BCDR, "\x12\x3F", 3, "123", api.OK, 0},
		{api.BCDR, "\xDF", 1, "=", api.OK, 0},
		{api.BCDR, "\x12\x3F\xAA", 3, "123", api.OK, 0},
		{api.EBCDIC, "\xC1\xF1\x40\xBA\xE0\x00", 5, "A1 [\\", api.OK, 0},
		{api.ASCII, "A\n", 1, "A", api.OK, 0},
		{api.BINARY, "\x00\xFF\x0A", 2, "\x00\xFF", api.OK, 0},

		{api.BCD, "\x11\x23", 3, "", api.ErrPad, 0},
		{api.BCD, "\xF1\x23", 3, "", api.ErrPad, 0},
		{api.BCD, "\xA1", 1, "", api.ErrPad, 0},
		{api.BCD, "\x1A\x23", 3, "", api.ErrChar, 0},
		{api.BCD, "\x11\x2A", 3, "", api.ErrPad, 0},
		{api.BCD, "\x01\x2A", 3, "", api.ErrChar, 1},
		{api.BCD, "\x01\xF2", 3, "", api.ErrChar, 1},
		{api.BCD, "\x1F\x23", 3, "", api.ErrChar, 0},
		{api.BCD, "\x12\x3F", 4, "", api.ErrChar, 1},
		{api.BCDR, "\x12\x30", 3, "", api.ErrPad, 1},
		{api.BCDR, "\x12\x3D", 3, "", api.ErrPad, 1},
		{api.BCDR, "\x12\xA0", 3, "", api.ErrChar, 1},
		{api.BCDR, "\x12\xAF", 3, "", api.ErrChar, 1},
		{api.BCDR, "\xA2\x30", 3, "", api.ErrChar, 0},
		{api.BCDR, "\x12\x3F", 4, "", api.ErrChar, 1},
		{api.EBCDIC, "\xC1\x00", 2, "", api.ErrChar, 1},
		{api.EBCDIC, "\x41\x00", 2, "", api.ErrChar, 0},
		{api.ASCII, "AB\x1F\x7F", 4, "", api.ErrChar, 2},

		{api.BCD, "\x12", 3, "", api.ErrShort, 1},
		{api.BCD, "\xFF", 3, "", api.ErrShort, 1},
		{api.BCDR, "", 1, "", api.ErrShort, 0},
		{api.ASCII, "\n\n", 3, "", api.ErrShort, 2},
		{api.EBCDIC, "\x00", 2, "", api.ErrShort, 1},
		{api.BINARY, "abc", 4, "", api.ErrShort, 3},
	} {
		checkUnpack(t, c)
	}
	for _, enc := range encodings {
		checkUnpack(t, unpackCase{enc, "", 0, "", api.OK, 0})
		checkUnpack(t, unpackCase{enc, "\xAA", 0, "", api.OK, 0})
		checkUnpack(t, unpackCase{enc, "12", -1, "", api.ErrArg, 0})
		checkUnpack(t, unpackCase{enc, "", math.MinInt, "", api.ErrArg, 0})
		checkUnpack(t, unpackCase{enc, "12", math.MaxInt, "", api.ErrShort, 2})
		checkUnpack(t, unpackCase{enc, "12", math.MaxInt - 1, "", api.ErrShort, 2})
	}
	for _, enc := range noEncodings {
		for _, n := range []int{math.MinInt, -1, 0, 1, 3, math.MaxInt} {
			checkUnpack(t, unpackCase{enc, "12", n, "", api.ErrArg, 0})
		}
	}
}

// TestUnpackOfEveryByte: every byte, alone and behind a right one, in the encodings of a byte a character.
func TestUnpackOfEveryByte(t *testing.T) {
	signs := map[byte]byte{}
	for c, b := range ebcdicOf() {
		signs[b] = c
	}
	if len(signs) != 95 {
		t.Fatalf("the test's own table has %d signs", len(signs))
	}
	for i := range 256 {
		b := byte(i)
		checkUnpackByte(t, api.BINARY, "\x00", "\x00", b, b, true)
		checkUnpackByte(t, api.ASCII, "7", "7", b, b, isCharacter(api.ASCII, b))
		sign, ok := signs[b]
		checkUnpackByte(t, api.EBCDIC, "\xF7", "7", b, sign, ok)
	}
}

func checkUnpackByte(t *testing.T, enc int, ahead, aheadSign string, b, sign byte, ok bool) {
	t.Helper()
	one, two := string([]byte{b}), ahead+string([]byte{b})
	if !ok {
		checkUnpack(t, unpackCase{enc, one, 1, "", api.ErrChar, 0})
		checkUnpack(t, unpackCase{enc, two, 2, "", api.ErrChar, 1})
		return
	}
	checkUnpack(t, unpackCase{enc, one, 1, string([]byte{sign}), api.OK, 0})
	checkUnpack(t, unpackCase{enc, two, 2, aheadSign + string([]byte{sign}), api.OK, 0})
}

// slowHalves reads halves as the chapter's words go: it looks at each byte's characters first, then at its filling.
func slowHalves(enc int, b string, n int, signs string) unpackCase {
	fill := -1
	if n%2 == 1 && enc == api.BCD {
		fill = 0
	} else if n%2 == 1 {
		fill = n
	}
	out := ""
	for at := 0; at < (n+1)/2; at++ {
		for i := 2 * at; i <= 2*at+1; i++ {
			if i == fill {
				continue
			}
			c := "0123456789:;<=>?"[halfAt(b, i)]
			if strings.IndexByte(signs, c) < 0 {
				return unpackCase{enc, b, n, "", api.ErrChar, at}
			}
			out += string(rune(c))
		}
		if fill/2 == at && fill >= 0 && (enc == api.BCD && halfAt(b, fill) != 0 || enc == api.BCDR && halfAt(b, fill) != 15) {
			return unpackCase{enc, b, n, "", api.ErrPad, at}
		}
	}
	return unpackCase{enc, b, n, out, api.OK, 0}
}

func halfAt(b string, i int) int {
	return int(b[i/2]>>(4*(1-i%2))) & 15
}

// TestUnpackOfEveryTwoBytes: all pairs of bytes, with every number of characters that they have.
func TestUnpackOfEveryTwoBytes(t *testing.T) {
	for i := range 1 << 16 {
		b := string([]byte{byte(i >> 8), byte(i)})
		for _, enc := range []int{api.BCD, api.BCDR} {
			for n := range 5 {
				checkUnpack(t, slowHalves(enc, b, n, "0123456789="))
			}
			checkUnpack(t, unpackCase{enc, b, 5, "", api.ErrShort, 2})
		}
	}
}
