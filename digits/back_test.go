package digits_test

import (
	"testing"

	"turnstile/api"
	"turnstile/digits"
)

// behinds are what may stand behind that which is read.
var behinds = []string{"", "\x00", "\xFF", "0", "=", "\xAA\xAA"}

// texts are all characters of an encoding, alone, in pairs, in threes with digits, and some longer.
func texts(enc int) []string {
	out := []string{"", "0123456789", "00000", "9876543210123456789"}
	for i := range 256 {
		if !isCharacter(enc, byte(i)) {
			continue
		}
		out = append(out, string([]byte{byte(i)}), string([]byte{'1', byte(i), '2'}), string([]byte{byte(i), '0', byte(i)}))
		for j := range 256 {
			if isCharacter(enc, byte(j)) {
				out = append(out, string([]byte{byte(i), byte(j)}))
			}
		}
	}
	return out
}

func TestUnpackOfPack(t *testing.T) {
	for _, enc := range encodings {
		seen := map[string]string{}
		for _, s := range texts(enc) {
			b, e := digits.Pack(enc, s)
			if e != api.OK || len(b) != digits.Width(enc, len(s)) {
				t.Fatalf("1.10: Pack(%d, %q) = %x, %d", enc, s, b, e)
			}
			key := string(rune(len(s))) + b
			if old, ok := seen[key]; ok && old != s {
				t.Errorf("1.10: %q and %q are the same bytes %x of encoding %d", old, s, b, enc)
			}
			seen[key] = s
			for _, behind := range behinds {
				if back, e, at := digits.Unpack(enc, b+behind, len(s)); back != s || e != api.OK || at != 0 {
					t.Errorf("1.10: Unpack(%d, %x + %x, %d) = %q, %d, %d, want %q", enc, b, behind, len(s), back, e, at, s)
				}
			}
		}
	}
}

func TestPackOfUnpack(t *testing.T) {
	for i := range 1 << 16 {
		b := string([]byte{byte(i >> 8), byte(i)})
		for _, enc := range encodings {
			for n := range 5 {
				s, e, _ := digits.Unpack(enc, b, n)
				if e != api.OK {
					continue
				}
				if back, e := digits.Pack(enc, s); e != api.OK || back != b[:digits.Width(enc, n)] {
					t.Errorf("1.10: Pack(%d, %q) = %x, %d, but it was read from %x", enc, s, back, e, b)
				}
			}
		}
	}
}

func TestLengthOfPrefix(t *testing.T) {
	bound := [5]int{1, 10, 100, 1000, 10000}
	for _, enc := range prefixEncodings {
		for many := 1; many <= 4; many++ {
			for n := range bound[many] {
				b, e := digits.Prefix(enc, many, n)
				if e != api.OK {
					t.Fatalf("1.10: Prefix(%d, %d, %d) = %x, %d", enc, many, n, b, e)
				}
				for _, behind := range behinds {
					if back, e, w := digits.Length(enc, many, b+behind); back != n || e != api.OK || w != len(b) {
						t.Errorf("1.10: Length(%d, %d, %x + %x) = %d, %d, %d, want %d, OK, %d", enc, many, b, behind, back, e, w, n, len(b))
					}
				}
			}
		}
	}
}

func TestPrefixOfLength(t *testing.T) {
	for i := range 1 << 16 {
		b := string([]byte{byte(i >> 8), byte(i)})
		for _, enc := range prefixEncodings {
			for many := 1; many <= 4; many++ {
				n, e, w := digits.Length(enc, many, b)
				if e != api.OK {
					continue
				}
				if back, e := digits.Prefix(enc, many, n); e != api.OK || back != b[:w] {
					t.Errorf("1.10: Prefix(%d, %d, %d) = %x, %d, but it was read from %x", enc, many, n, back, e, b)
				}
			}
		}
	}
}

func TestNumberOfWrite(t *testing.T) {
	power := 1
	for width := 1; width <= 18; width++ {
		power *= 10
		for _, n := range []int{0, 1, 9, power / 10, power/10 + 1, power / 3, power - 1} {
			if n >= power {
				continue
			}
			s, e := digits.Write(n, width)
			if e != api.OK || len(s) != width {
				t.Errorf("1.10: Write(%d, %d) = %q, %d", n, width, s, e)
			}
			if back, e := digits.Number(s); back != n || e != api.OK {
				t.Errorf("1.10: Number(%q) = %d, %d, want %d", s, back, e, n)
			}
		}
	}
}

func TestHexAndBack(t *testing.T) {
	all := ""
	for i := range 256 {
		all += string([]byte{byte(i)})
		h := digits.Hex(all)
		if b, e, at := digits.Unhex(h); b != all || e != api.OK || at != 0 {
			t.Errorf("1.10: Unhex(Hex(%x)) = %x, %d, %d", all, b, e, at)
		}
		if len(h) != 2*len(all) {
			t.Errorf("1.8: Hex of %d bytes has %d signs", len(all), len(h))
		}
	}
	for _, s := range []string{"", "00", "0123456789ABCDEF", "FEDCBA9876543210"} {
		if b, e, _ := digits.Unhex(s); e != api.OK || digits.Hex(b) != s {
			t.Errorf("1.10: Hex(Unhex(%q)) = %q, %d", s, digits.Hex(b), e)
		}
	}
}
