package digits_test

import (
	"strings"
	"testing"

	"turnstile/api"
	"turnstile/digits"
)

func TestHex(t *testing.T) {
	for _, c := range [][2]string{{"", ""}, {"\x00\xFF", "00FF"}, {"\x1A", "1A"}, {"\x0F\xF0", "0FF0"}, {"\x9A\xA9\xBC\xDE", "9AA9BCDE"}, {"\x12\x34\x56\x78", "12345678"}} {
		if h := digits.Hex(c[0]); h != c[1] {
			t.Errorf("1.8: Hex(%x) = %q, want %q", c[0], h, c[1])
		}
	}
}

func TestUnhex(t *testing.T) {
	for _, c := range []struct {
		s, b string
		e    api.Errno
		at   int
	}{
		{"", "", api.OK, 0}, {"00FF", "\x00\xFF", api.OK, 0}, {"1A", "\x1A", api.OK, 0}, {"9AA9BCDE", "\x9A\xA9\xBC\xDE", api.OK, 0},
		{"0", "", api.ErrShort, 1}, {"123", "", api.ErrShort, 3},
		{"0a", "", api.ErrChar, 1}, {"a0", "", api.ErrChar, 0}, {"0g1", "", api.ErrChar, 1}, {"0G", "", api.ErrChar, 1}, {"x", "", api.ErrChar, 0}, {"00 ", "", api.ErrChar, 2}, {"0000x", "", api.ErrChar, 4}, {"x0y0", "", api.ErrChar, 0},
	} {
		if b, e, at := digits.Unhex(c.s); b != c.b || e != c.e || at != c.at {
			t.Errorf("1.8: Unhex(%q) = %x, %d, %d, want %x, %d, %d", c.s, b, e, at, c.b, c.e, c.at)
		}
	}
}

// TestUnhexOfEveryTwoBytes: all pairs of bytes.
func TestUnhexOfEveryTwoBytes(t *testing.T) {
	const signs = "0123456789ABCDEF"
	for i := range 1 << 16 {
		s := string([]byte{byte(i >> 8), byte(i)})
		high, low := strings.IndexByte(signs, s[0]), strings.IndexByte(signs, s[1])
		want, wantErr, place := "", api.OK, 0
		switch {
		case high < 0:
			wantErr = api.ErrChar
		case low < 0:
			wantErr, place = api.ErrChar, 1
		default:
			want = string([]byte{byte(16*high + low)})
		}
		if b, e, at := digits.Unhex(s); b != want || e != wantErr || at != place {
			t.Errorf("1.8: Unhex(%q) = %x, %d, %d, want %x, %d, %d", s, b, e, at, want, wantErr, place)
		}
	}
}
