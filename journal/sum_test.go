package journal_test

import (
	"hash/crc32"
	"math/rand"
	"strings"
	"testing"

	"turnstile/journal"
)

// bitByBit is the check sum as the chapter tells it.
func bitByBit(b string) uint32 {
	var sum uint32 = 0xFFFFFFFF
	for _, c := range []byte(b) {
		for bit := range 8 {
			lowest := sum & 1
			sum >>= 1
			if uint32(c>>bit)&1 != lowest {
				sum ^= 0xEDB88320
			}
		}
	}
	return sum ^ 0xFFFFFFFF
}

func holdsSum(t *testing.T, b string) {
	t.Helper()
	if n, want := journal.Sum(b), bitByBit(b); n != want || want != crc32.ChecksumIEEE([]byte(b)) {
		t.Fatalf("J1: Sum(%.100q) = %08X; must be %08X", b, n, want)
	}
}

func TestSumByHand(t *testing.T) {
	for b, want := range map[string]uint32{
		"":                 0,
		"123456789":        0xCBF43926,
		"a":                0xE8B7BE43,
		"abc":              0x352441C2,
		"\x00":             0xD202EF8D,
		"\x00\x00\x00\x00": 0x2144DF1C,
		"\xff\xff\xff\xff": 0xFFFFFFFF,
		"The quick brown fox jumps over the lazy dog": 0x414FA339,
	} {
		if n := journal.Sum(b); n != want {
			t.Errorf("J1: Sum(%q) = %08X; must be %08X", b, n, want)
		}
		holdsSum(t, b)
	}
}

// TestSums: of all texts of one and two bytes, and of long ones.
func TestSums(t *testing.T) {
	for i := range 256 {
		holdsSum(t, string([]byte{byte(i)}))
		holdsSum(t, strings.Repeat(string([]byte{byte(i)}), 1+i))
		for j := range 256 {
			holdsSum(t, string([]byte{byte(i), byte(j)}))
		}
	}
	r := rand.New(rand.NewSource(2301))
	for range 2000 {
		b := make([]byte, oneOf(r, r.Intn(20), r.Intn(2000)))
		r.Read(b)
		holdsSum(t, string(b))
	}
	holdsSum(t, strings.Repeat("ab\x00\xff", 1<<18))
}

// TestNew: there is nothing in it, and each is its own.
func TestNew(t *testing.T) {
	a, b := made(t), made(t)
	stands(t, a, nil)
	appends(t, a, tick(1))
	stands(t, b, nil)
	stands(t, made(t), nil)
}
