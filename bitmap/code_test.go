package bitmap_test

import (
	"strconv"
	"strings"
	"testing"

	"turnstile/api"
	"turnstile/bitmap"
)

// encodings are the three that maps have.
var encodings = []int{api.BINARY, api.ASCII, api.EBCDIC}

// width is how many bytes a half takes.
func width(enc int) int {
	if enc == api.BINARY {
		return 8
	}
	return 16
}

// sixteenths are the characters of an encoding, by their worth.
func sixteenths(enc int) string {
	if enc == api.EBCDIC {
		return "\xF0\xF1\xF2\xF3\xF4\xF5\xF6\xF7\xF8\xF9\xC1\xC2\xC3\xC4\xC5\xC6"
	}
	return "0123456789ABCDEF"
}

// written is what a row of 64 or 128 characters 0 and 1 is written as: a plain second reading of the chapter.
func written(t *testing.T, enc int, row string) string {
	t.Helper()
	step := 4
	if enc == api.BINARY {
		step = 8
	}
	var b []byte
	for i := 0; i < len(row); i += step {
		n, err := strconv.ParseUint(row[i:i+step], 2, 8)
		if err != nil {
			t.Fatalf("the test's own row %q", row)
		}
		if enc == api.BINARY {
			b = append(b, byte(n))
		} else {
			b = append(b, sixteenths(enc)[n])
		}
	}
	return string(b)
}

func TestEncodeExamples(t *testing.T) {
	for _, c := range []struct {
		enc     int
		numbers []int
		want    string
	}{
		{api.BINARY, []int{2, 64}, "\x40\x00\x00\x00\x00\x00\x00\x01"},
		{api.BINARY, nil, "\x00\x00\x00\x00\x00\x00\x00\x00"},
		{api.BINARY, []int{128}, "\x80\x00\x00\x00\x00\x00\x00\x00\x00\x00\x00\x00\x00\x00\x00\x01"},
		{api.BINARY, []int{66, 9}, "\x80\x80\x00\x00\x00\x00\x00\x00\x40\x00\x00\x00\x00\x00\x00\x00"},
		{api.ASCII, []int{2, 128}, "C000000000000000" + "0000000000000001"},
		{api.ASCII, nil, "0000000000000000"},
		{api.ASCII, []int{66}, "8000000000000000" + "4000000000000000"},
		{api.EBCDIC, []int{2, 128}, "\xC3" + strings.Repeat("\xF0", 30) + "\xF1"},
		{api.EBCDIC, []int{64}, strings.Repeat("\xF0", 15) + "\xF1"},
	} {
		m, _ := bitmap.Of(c.numbers...)
		if s, e := bitmap.Encode(c.enc, m); s != c.want || e != api.OK {
			t.Errorf("M4: Encode(%d, Of(%v)) = %x, %d, want %x", c.enc, c.numbers, s, e, c.want)
		}
	}
}

// TestEncode: each map in each encoding, bit by bit.
func TestEncode(t *testing.T) {
	for _, m := range someMaps() {
		r := row(m)
		for _, enc := range encodings {
			s, e := bitmap.Encode(enc, m)
			if r[0] == '1' || r[64] == '1' {
				if s != "" || e != api.ErrArg {
					t.Errorf("M4: Encode(%d, %x), which is not right = %x, %d", enc, m, s, e)
				}
				continue
			}
			want := r[:64]
			if strings.Contains(r[64:], "1") {
				want = set(r, 1, "1")
			}
			if s != written(t, enc, want) || e != api.OK {
				t.Errorf("M4: Encode(%d, %x) = %x, %d", enc, m, s, e)
			}
		}
	}
}

// TestOtherEncodings: those that maps have not, whatever else is wrong.
func TestOtherEncodings(t *testing.T) {
	others := []int{api.BCD, api.BCDR, api.ASCII + 256, api.BINARY - 256}
	for _, n := range edges {
		if n != api.ASCII && n != api.EBCDIC && n != api.BINARY {
			others = append(others, n)
		}
	}
	for _, enc := range others {
		for _, m := range someMaps() {
			if s, e := bitmap.Encode(enc, m); s != "" || e != api.ErrArg {
				t.Errorf("M4: Encode(%d, %x) = %x, %d", enc, m, s, e)
			}
		}
		for _, b := range []string{"", "G", "C0", strings.Repeat("0", 16), strings.Repeat("\x00", 40), "\x80" + strings.Repeat("\x00", 15)} {
			if m, e, at := bitmap.Decode(enc, b); m != (bitmap.Map{}) || e != api.ErrArg || at != 0 {
				t.Errorf("M5: Decode(%d, %x) = %x, %d, %d", enc, b, m, e, at)
			}
		}
	}
}

func TestDecodeExamples(t *testing.T) {
	noughts := func(n int) string { return strings.Repeat("\x00", n) }
	for _, c := range []struct {
		enc  int
		b    string
		want bitmap.Map
		e    api.Errno
		at   int
	}{
		{api.ASCII, "C00000000000000", bitmap.Map{}, api.ErrShort, 15},
		{api.ASCII, "C0000000000000G0", bitmap.Map{}, api.ErrChar, 14},
		{api.ASCII, "c000..", bitmap.Map{}, api.ErrChar, 0},
		{api.BINARY, "\x80" + noughts(15), bitmap.Map{}, api.ErrMap, 8},
		{api.BINARY, "\x80" + noughts(7) + "\x80" + noughts(7), bitmap.Map{}, api.ErrMap, 8},
		{api.BINARY, noughts(7), bitmap.Map{}, api.ErrShort, 7},
		{api.BINARY, noughts(8), bitmap.Map{}, api.OK, 8},
		{api.ASCII, "4000000000000001zz", bitmap.Map{First: 1<<62 + 1}, api.OK, 16},
		{api.ASCII, "C0000000000000000000000000000001G", bitmap.Map{First: 1 << 62, Second: 1}, api.OK, 32},
		{api.ASCII, "C00000000000000000000000000000010", bitmap.Map{First: 1 << 62, Second: 1}, api.OK, 32},
		{api.ASCII, "80000000000000008000000000000001", bitmap.Map{}, api.ErrMap, 16},
		{api.ASCII, "C0000000000000000000000000000000", bitmap.Map{}, api.ErrMap, 16},
		{api.ASCII, "C00000000000000080000000000000G1", bitmap.Map{}, api.ErrChar, 30},
		{api.ASCII, "C0000000000000008000000000000001"[:31], bitmap.Map{}, api.ErrShort, 31},
		{api.ASCII, "C000000000000000", bitmap.Map{}, api.ErrShort, 16},
		{api.ASCII, "C00000000000000G", bitmap.Map{}, api.ErrChar, 15},
		{api.EBCDIC, "\xC3" + strings.Repeat("\xF0", 30) + "\xF1", bitmap.Map{First: 1 << 62, Second: 1}, api.OK, 32},
		{api.EBCDIC, "0000000000000000", bitmap.Map{}, api.ErrChar, 0},
		{api.ASCII, strings.Repeat("\xF0", 16), bitmap.Map{}, api.ErrChar, 0},
	} {
		if m, e, at := bitmap.Decode(c.enc, c.b); m != c.want || e != c.e || at != c.at {
			t.Errorf("M5: Decode(%d, %x) = %x, %d, %d, want %x, %d, %d", c.enc, c.b, m, e, at, c.want, c.e, c.at)
		}
	}
}

// TestDecodeCutOff: what ends after each of its bytes, in the first half and in the second.
func TestDecodeCutOff(t *testing.T) {
	for _, m := range someMaps() {
		for _, enc := range encodings {
			s, e := bitmap.Encode(enc, m)
			if e != api.OK {
				continue
			}
			for n := range len(s) {
				if got, e, at := bitmap.Decode(enc, s[:n]); got != (bitmap.Map{}) || e != api.ErrShort || at != n {
					t.Errorf("M5: Decode(%d, %x) = %x, %d, %d", enc, s[:n], got, e, at)
				}
			}
		}
	}
}

// TestDecodeCharacters: each byte at each place; a wrong one is told ahead of what stands behind it.
func TestDecodeCharacters(t *testing.T) {
	for _, enc := range encodings {
		first := written(t, enc, "1"+strings.Repeat("01", 31)+"1")
		text := first + written(t, enc, strings.Repeat("01", 32))
		for place := range text {
			for c := range 256 {
				b := text[:place] + string([]byte{byte(c)}) + text[place+1:]
				m, e, at := bitmap.Decode(enc, b)
				if enc != api.BINARY && strings.IndexByte(sixteenths(enc), byte(c)) < 0 {
					if m != (bitmap.Map{}) || e != api.ErrChar || at != place {
						t.Errorf("M5: Decode(%d, %x) = %x, %d, %d, want ErrChar at %d", enc, b, m, e, at, place)
					}
					for _, more := range []string{"", "zz"} {
						cut := b[:place+1] + more
						if m, e, at := bitmap.Decode(enc, cut); m != (bitmap.Map{}) || e != api.ErrChar || at != place {
							t.Errorf("M5: Decode(%d, %x) = %x, %d, %d, want ErrChar at %d", enc, cut, m, e, at, place)
						}
					}
					continue
				}
				checkRead(t, enc, b, m, e, at)
			}
		}
	}
}

// checkRead holds what Decode said of right characters against the row that they are.
func checkRead(t *testing.T, enc int, b string, m bitmap.Map, e api.Errno, at int) {
	t.Helper()
	var r strings.Builder
	for _, c := range []byte(b) {
		n, digits := uint64(c), 8
		if enc != api.BINARY {
			n, digits = uint64(strings.IndexByte(sixteenths(enc), c)), 4
		}
		r.WriteString(rowOf(n)[64-digits:])
	}
	first, second := r.String()[:64], r.String()[64:]
	switch {
	case first[0] == '0':
		if row(m) != first+strings.Repeat("0", 64) || e != api.OK || at != width(enc) {
			t.Errorf("M5: Decode(%d, %x) = %x, %d, %d", enc, b, m, e, at)
		}
	case second[0] == '1' || !strings.Contains(second, "1"):
		if m != (bitmap.Map{}) || e != api.ErrMap || at != width(enc) {
			t.Errorf("M5: Decode(%d, %x) = %x, %d, %d", enc, b, m, e, at)
		}
	default:
		if row(m) != "0"+first[1:]+second || e != api.OK || at != 2*width(enc) {
			t.Errorf("M5: Decode(%d, %x) = %x, %d, %d", enc, b, m, e, at)
		}
	}
}

// TestDecodeSecondHalf: each bit alone in the second half, with and without that of 65, and nothing.
func TestDecodeSecondHalf(t *testing.T) {
	none := strings.Repeat("0", 64)
	for _, enc := range encodings {
		for n := 1; n <= 64; n++ {
			for _, second := range []string{none, set(none, n, "1"), set(set(none, n, "1"), 1, "1")} {
				b := written(t, enc, set(none, 1, "1")+second)
				for _, behind := range []string{"", "\x00", "zz", b} {
					m, e, at := bitmap.Decode(enc, b+behind)
					checkRead(t, enc, b, m, e, at)
				}
			}
		}
	}
}
