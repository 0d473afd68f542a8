package journal_test

import (
	"testing"

	"turnstile/journal"
)

// three is the record of example 1, without its sum.
const three = "\x00\x00\x00\x01\x00\x00\x00\x05\x04\x00\x06\x00\x00"

func TestExampleOne(t *testing.T) {
	j := journal.New()
	if b := j.Bytes(); b != "" || j.Len() != 0 {
		t.Errorf("J1: a new journal has the bytes %q, and %d entries", b, j.Len())
	}
	opens(t, "", 0, nil)
	appends(t, j, tick(3))
	b := j.Bytes()
	if len(b) != 17 || b[:13] != three || b != summed(three) {
		t.Errorf("J2: Bytes = %q", b)
	}
	if b[13:] != four(int(journal.Sum(three))) {
		t.Errorf("J2: the sum in the record is %q; Sum tells %x", b[13:], journal.Sum(three))
	}
}

func TestExampleTwo(t *testing.T) {
	b := made(t, tick(3)).Bytes()
	opens(t, b[:16], 0, nil)
	j := opens(t, b+b, 17, []journal.Entry{tick(3)})
	if j.Len() != 1 {
		t.Errorf("J3: of the record twice there are %d entries", j.Len())
	}
}
