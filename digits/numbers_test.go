package digits_test

import (
	"fmt"
	"math"
	"testing"

	"turnstile/api"
	"turnstile/digits"
)

func TestNumber(t *testing.T) {
	for _, c := range []struct {
		s string
		n int
		e api.Errno
	}{
		{"0", 0, api.OK}, {"7", 7, api.OK}, {"007", 7, api.OK}, {"1234567890", 1234567890, api.OK},
		{"000000000000000000", 0, api.OK}, {"000000000000000001", 1, api.OK},
		{"100000000000000000", 100000000000000000, api.OK}, {"999999999999999999", 999999999999999999, api.OK},
		{"", 0, api.ErrArg}, {"1234567890123456789", 0, api.ErrArg}, {"0000000000000000000", 0, api.ErrArg},
		{"000000000000000000x", 0, api.ErrArg}, {"-------------------", 0, api.ErrArg},
		{"1-", 0, api.ErrChar}, {"-1", 0, api.ErrChar}, {"+1", 0, api.ErrChar}, {" 1", 0, api.ErrChar}, {"1 ", 0, api.ErrChar},
		{"1_0", 0, api.ErrChar}, {"0x1", 0, api.ErrChar}, {"1=2", 0, api.ErrChar}, {"12345678901234567x", 0, api.ErrChar}, {"\xF1", 0, api.ErrChar},
	} {
		if n, e := digits.Number(c.s); n != c.n || e != c.e {
			t.Errorf("1.4: Number(%q) = %d, %d, want %d, %d", c.s, n, e, c.n, c.e)
		}
	}
	for i := range 256 {
		want, wantErr := 0, api.ErrChar
		if '0' <= i && i <= '9' {
			want, wantErr = 10+i-'0', api.OK
		}
		if n, e := digits.Number(string([]byte{'1', byte(i)})); n != want || e != wantErr {
			t.Errorf("1.4: Number(1 and the byte %d) = %d, %d, want %d, %d", i, n, e, want, wantErr)
		}
	}
}

func TestWrite(t *testing.T) {
	for _, c := range []struct {
		n, width int
		s        string
		e        api.Errno
	}{
		{42, 5, "00042", api.OK}, {0, 1, "0", api.OK}, {0, 3, "000", api.OK}, {9, 1, "9", api.OK}, {99, 2, "99", api.OK},
		{0, 18, "000000000000000000", api.OK}, {999999999999999999, 18, "999999999999999999", api.OK}, {99999999999999999, 18, "099999999999999999", api.OK},
		{10, 1, "", api.ErrOver}, {100, 2, "", api.ErrOver}, {1000000000000000000, 18, "", api.ErrOver}, {math.MaxInt, 18, "", api.ErrOver}, {math.MaxInt, 1, "", api.ErrOver},
		{-1, 5, "", api.ErrArg}, {math.MinInt, 18, "", api.ErrArg}, {1, 0, "", api.ErrArg}, {0, 0, "", api.ErrArg}, {1, -1, "", api.ErrArg},
		{1, 19, "", api.ErrArg}, {math.MaxInt, 19, "", api.ErrArg}, {1000, 0, "", api.ErrArg}, {1, math.MaxInt, "", api.ErrArg}, {1, math.MinInt, "", api.ErrArg},
	} {
		if s, e := digits.Write(c.n, c.width); s != c.s || e != c.e {
			t.Errorf("1.5: Write(%d, %d) = %q, %d, want %q, %d", c.n, c.width, s, e, c.s, c.e)
		}
	}
}

// prefixEncodings are those that a length may have.
var prefixEncodings = []int{api.ASCII, api.BCD, api.EBCDIC, api.BINARY}

func TestPrefix(t *testing.T) {
	for _, c := range []struct {
		enc, many, n int
		b            string
		e            api.Errno
	}{
		{api.BCD, 3, 42, "\x00\x42", api.OK}, {api.BCD, 1, 7, "\x07", api.OK}, {api.BCD, 2, 42, "\x42", api.OK}, {api.BCD, 4, 9999, "\x99\x99", api.OK},
		{api.ASCII, 2, 7, "07", api.OK}, {api.ASCII, 1, 0, "0", api.OK}, {api.ASCII, 4, 9999, "9999", api.OK},
		{api.EBCDIC, 2, 7, "\xF0\xF7", api.OK}, {api.EBCDIC, 3, 123, "\xF1\xF2\xF3", api.OK},
		{api.BINARY, 1, 9, "\x09", api.OK}, {api.BINARY, 2, 99, "\x63", api.OK}, {api.BINARY, 2, 0, "\x00", api.OK},
		{api.BINARY, 3, 7, "\x00\x07", api.OK}, {api.BINARY, 3, 999, "\x03\xE7", api.OK}, {api.BINARY, 4, 1234, "\x04\xD2", api.OK}, {api.BINARY, 4, 9999, "\x27\x0F", api.OK},

		{api.BINARY, 1, 10, "", api.ErrOver}, {api.BINARY, 2, 100, "", api.ErrOver}, {api.BINARY, 2, 255, "", api.ErrOver}, {api.BINARY, 3, 1000, "", api.ErrOver}, {api.BINARY, 4, 10000, "", api.ErrOver},
		{api.ASCII, 1, 10, "", api.ErrOver}, {api.BCD, 3, 1000, "", api.ErrOver}, {api.EBCDIC, 4, 10000, "", api.ErrOver}, {api.ASCII, 4, math.MaxInt, "", api.ErrOver},

		{api.BCDR, 2, 1, "", api.ErrArg}, {api.BCDR, 1, 10, "", api.ErrArg},
	} {
		if b, e := digits.Prefix(c.enc, c.many, c.n); b != c.b || e != c.e {
			t.Errorf("1.6: Prefix(%d, %d, %d) = %x, %d, want %x, %d", c.enc, c.many, c.n, b, e, c.b, c.e)
		}
	}
	for _, enc := range noEncodings {
		if b, e := digits.Prefix(enc, 2, 1); b != "" || e != api.ErrArg {
			t.Errorf("1.6: Prefix(%d, 2, 1) = %x, %d, want ErrArg", enc, b, e)
		}
	}
	for _, enc := range prefixEncodings {
		for _, c := range [][2]int{{0, 0}, {0, 10}, {5, 1}, {18, 1}, {-1, 1}, {math.MinInt, 1}, {math.MaxInt, 1}, {1, -1}, {4, math.MinInt}} {
			if b, e := digits.Prefix(enc, c[0], c[1]); b != "" || e != api.ErrArg {
				t.Errorf("1.6: Prefix(%d, %d, %d) = %x, %d, want ErrArg", enc, c[0], c[1], b, e)
			}
		}
	}
}

type lengthCase struct {
	enc, many int
	b         string
	n         int
	e         api.Errno
	at        int
}

func checkLength(t *testing.T, c lengthCase) {
	t.Helper()
	if n, e, at := digits.Length(c.enc, c.many, c.b); n != c.n || e != c.e || at != c.at {
		t.Errorf("1.7: Length(%d, %d, %x) = %d, %d, %d, want %d, %d, %d", c.enc, c.many, c.b, n, e, at, c.n, c.e, c.at)
	}
}

func TestLength(t *testing.T) {
	for _, c := range []lengthCase{
		{api.BCD, 3, "\x00\x42\x11", 42, api.OK, 2}, {api.BCD, 2, "\x42\xAA", 42, api.OK, 1}, {api.BCD, 1, "\x07", 7, api.OK, 1}, {api.BCD, 4, "\x99\x99", 9999, api.OK, 2},
		{api.ASCII, 3, "000", 0, api.OK, 3}, {api.ASCII, 4, "1234x", 1234, api.OK, 4}, {api.EBCDIC, 1, "\xF9\x00", 9, api.OK, 1}, {api.EBCDIC, 2, "\xF1\xF2", 12, api.OK, 2},
		{api.BINARY, 1, "\x09\xFF", 9, api.OK, 1}, {api.BINARY, 2, "\x63\x63", 99, api.OK, 1}, {api.BINARY, 3, "\x03\xE7", 999, api.OK, 2}, {api.BINARY, 4, "\x27\x0F\x01", 9999, api.OK, 2},

		{api.BCD, 3, "\x10\x42", 0, api.ErrPad, 0}, {api.BCD, 1, "\xF1", 0, api.ErrPad, 0}, {api.BCD, 3, "\xD1\x42", 0, api.ErrPad, 0}, {api.BCD, 3, "\x10\x4D", 0, api.ErrPad, 0},
		{api.BCD, 3, "\x1D\x42", 0, api.ErrChar, 0}, {api.BCD, 3, "\x0D\x4A", 0, api.ErrChar, 0}, {api.BCD, 2, "\xD1", 0, api.ErrChar, 0}, {api.BCD, 4, "\x12\x3D", 0, api.ErrChar, 1}, {api.BCD, 4, "\x12\xA3", 0, api.ErrChar, 1},
		{api.ASCII, 3, "0=1", 0, api.ErrChar, 1}, {api.ASCII, 3, "0 1", 0, api.ErrChar, 1}, {api.ASCII, 2, "x\n", 0, api.ErrChar, 0}, {api.ASCII, 2, "1/", 0, api.ErrChar, 1}, {api.ASCII, 2, "1:", 0, api.ErrChar, 1},
		{api.EBCDIC, 2, "\xF0\x7E", 0, api.ErrChar, 1}, {api.EBCDIC, 2, "\xF0\x30", 0, api.ErrChar, 1}, {api.EBCDIC, 2, "\xC1\xFA", 0, api.ErrChar, 0},

		{api.BINARY, 1, "\x0A", 0, api.ErrOver, 0}, {api.BINARY, 2, "\x64", 0, api.ErrOver, 0}, {api.BINARY, 2, "\xFF", 0, api.ErrOver, 0}, {api.BINARY, 3, "\x03\xE8", 0, api.ErrOver, 0}, {api.BINARY, 4, "\x27\x10", 0, api.ErrOver, 0}, {api.BINARY, 4, "\xFF\xFF", 0, api.ErrOver, 0},

		{api.EBCDIC, 2, "\xF0", 0, api.ErrShort, 1}, {api.EBCDIC, 2, "\x00", 0, api.ErrShort, 1}, {api.ASCII, 4, "123", 0, api.ErrShort, 3}, {api.BCD, 3, "\xFF", 0, api.ErrShort, 1}, {api.BINARY, 3, "\xFF", 0, api.ErrShort, 1}, {api.BINARY, 1, "", 0, api.ErrShort, 0},

		{api.BCDR, 3, "\x00\x0F", 0, api.ErrArg, 0}, {api.BCDR, 2, "", 0, api.ErrArg, 0},
	} {
		checkLength(t, c)
	}
	for _, enc := range noEncodings {
		checkLength(t, lengthCase{enc, 2, "12", 0, api.ErrArg, 0})
		checkLength(t, lengthCase{enc, 2, "1", 0, api.ErrArg, 0})
	}
	for _, enc := range prefixEncodings {
		for _, many := range []int{math.MinInt, -1, 0, 5, 18, math.MaxInt} {
			checkLength(t, lengthCase{enc, many, "123456", 0, api.ErrArg, 0})
			checkLength(t, lengthCase{enc, many, "", 0, api.ErrArg, 0})
		}
	}
}

// TestLengthOfEveryTwoBytes: all that two bytes can say, in the encodings that pack more than a digit into one.
func TestLengthOfEveryTwoBytes(t *testing.T) {
	bound := [5]int{1, 10, 100, 1000, 10000}
	for i := range 1 << 16 {
		b := string([]byte{byte(i >> 8), byte(i)})
		for many := 1; many <= 4; many++ {
			width := (many + 1) / 2
			say := slowHalves(api.BCD, b, many, "0123456789")
			want := lengthCase{api.BCD, many, b, 0, say.e, say.at}
			if say.e == api.OK {
				fmt.Sscanf(say.want, "%d", &want.n)
				want.at = width
			}
			checkLength(t, want)

			n := i >> (8 * (2 - width))
			want = lengthCase{api.BINARY, many, b, n, api.OK, width}
			if n >= bound[many] {
				want = lengthCase{api.BINARY, many, b, 0, api.ErrOver, 0}
			}
			checkLength(t, want)
		}
	}
}

func TestCount(t *testing.T) {
	const top, bottom = math.MaxInt, math.MinInt
	for _, c := range [][4]int{
		{5, 7, 10, 10}, {5, 7, 20, 12}, {5, 7, 12, 12}, {5, 7, 11, 11}, {5, 7, 13, 12}, {0, 0, 0, 0}, {0, 0, 5, 0},
		{5, -7, 10, 5}, {-3, 4, 10, 4}, {-3, -4, 10, 0}, {1, 1, -1, 0}, {0, 0, -1, 0}, {20, 0, 10, 10}, {20, -5, 10, 10}, {0, 20, 10, 10}, {10, 0, 10, 10},
		{top, top, top, top}, {top, 1, top, top}, {1, top, top, top}, {top - 1, 1, top, top}, {top - 2, 1, top, top - 1}, {top, 0, top, top},
		{top, top, 5, 5}, {top, 1, 5, 5}, {1, top, 5, 5}, {top, top, 0, 0}, {top, top, -1, 0},
		{bottom, bottom, top, 0}, {bottom, bottom, bottom, 0}, {bottom, 3, top, 3}, {3, bottom, top, 3}, {top, bottom, top, top}, {top, top, bottom, 0},
	} {
		if n := digits.Count(c[0], c[1], c[2]); n != c[3] {
			t.Errorf("1.9: Count(%d, %d, %d) = %d, want %d", c[0], c[1], c[2], n, c[3])
		}
	}
}
