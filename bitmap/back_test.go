package bitmap_test

import (
	"math/rand"
	"testing"

	"turnstile/api"
	"turnstile/bitmap"
)

// TestWrittenAndRead: what Encode says of a right map is read as that map, whatever stands behind it.
func TestWrittenAndRead(t *testing.T) {
	for _, m := range manyMaps() {
		for _, enc := range encodings {
			s, e := bitmap.Encode(enc, m)
			if (e == api.OK) != m.Right() {
				t.Errorf("M4: Encode(%d, %x) = %x, %d", enc, m, s, e)
			}
			if e != api.OK {
				continue
			}
			for _, behind := range []string{"", "0", "\x00", "\xF0", "zz", s} {
				if got, e, n := bitmap.Decode(enc, s+behind); got != m || e != api.OK || n != len(s) {
					t.Errorf("M6: Decode(%d, %x) = %x, %d, %d, want %x, %d", enc, s+behind, got, e, n, m, len(s))
				}
			}
		}
	}
}

// TestReadAndWritten: what Decode takes, Encode writes again, byte by byte.
func TestReadAndWritten(t *testing.T) {
	r := rand.New(rand.NewSource(2))
	taken := 0
	for range 50000 {
		enc := encodings[r.Intn(len(encodings))]
		b := make([]byte, r.Intn(40))
		for i := range b {
			if b[i] = byte(r.Intn(256)); enc != api.BINARY && r.Intn(100) != 0 {
				b[i] = sixteenths(enc)[r.Intn(16)]
			}
		}
		m, e, n := bitmap.Decode(enc, string(b))
		if e != api.OK {
			continue
		}
		taken++
		if s, e := bitmap.Encode(enc, m); s != string(b[:n]) || e != api.OK {
			t.Errorf("M6: Decode(%d, %x) takes %d; Encode of it = %x, %d", enc, b, n, s, e)
		}
		if !m.Right() {
			t.Errorf("M5: Decode(%d, %x) = %x, which is not right", enc, b, m)
		}
	}
	if taken < 1000 {
		t.Errorf("the test took %d texts only", taken)
	}
}

// TestTogether: what And and Less have are together what m has, and they have nothing in common.
func TestTogether(t *testing.T) {
	maps := manyMaps()
	for i, m := range maps {
		o := maps[len(maps)-1-i]
		and, less := m.And(o), m.Less(o)
		if !and.Right() || !less.Right() {
			t.Errorf("M3: %x And, Less %x = %x, %x", m, o, and, less)
		}
		if and.And(less) != (bitmap.Map{}) || and.Len()+less.Len() != m.Len() {
			t.Errorf("M6: %x And, Less %x = %x, %x", m, o, and, less)
		}
		for n := range m.Numbers() {
			if and.Has(n) == less.Has(n) || and.Has(n) != o.Has(n) {
				t.Errorf("M6: %x And, Less %x = %x, %x, at %d", m, o, and, less, n)
			}
		}
	}
}

// manyMaps are the edges and such as chance makes, full and sparse ones.
func manyMaps() []bitmap.Map {
	l := someMaps()
	r := rand.New(rand.NewSource(1))
	for range 2000 {
		m := bitmap.Map{First: r.Uint64(), Second: r.Uint64()}
		for range r.Intn(4) {
			m = bitmap.Map{First: m.First & r.Uint64(), Second: m.Second & r.Uint64()}
		}
		if r.Intn(4) != 0 {
			m.First, m.Second = m.First&^bitOf1, m.Second&^bitOf65
		}
		if r.Intn(4) == 0 {
			m.Second = 0
		}
		l = append(l, m)
	}
	return l
}
