package journal

import (
	"testing"

	"turnstile/api"
)

// TestGreatNumbers: of records so far behind that no test can write all ahead of them.
func TestGreatNumbers(t *testing.T) {
	body := "\x04\x00\x06\x00\x00"
	for number, want := range map[int]string{
		1<<24 - 1:  "\x00\xff\xff\xff",
		1 << 24:    "\x01\x00\x00\x00",
		0x12345678: "\x12\x34\x56\x78",
		1<<31 - 1:  "\x7f\xff\xff\xff",
		1 << 31:    "\x80\x00\x00\x00",
		1<<32 - 1:  "\xff\xff\xff\xff",
	} {
		b := recordOf(number, body)
		if len(b) != 17 || b[:4] != want || b[4:13] != "\x00\x00\x00\x05"+body {
			t.Errorf("J2: the record %d is %q", number, b)
		}
		r, ok := firstOf(b+"behind", number)
		if !ok || r.number != number || r.bytes != b || r.entry.Event != (api.Event{Kind: api.EvTick, N: 3}) {
			t.Errorf("J3: the record %d is read as %v, %v", number, r, ok)
		}
		for _, other := range []int{number - 1, number + 1, number ^ 1<<24, number & 0xffffff} {
			if _, ok := firstOf(b, other); ok && other != number {
				t.Errorf("J3: the record %d is taken for %d", number, other)
			}
		}
	}
}
