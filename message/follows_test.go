package message_test

import (
	"math/rand"
	"testing"

	"turnstile/api"
	"turnstile/message"
)

// TestReadOfPrint: Read of Print is the message.
func TestReadOfPrint(t *testing.T) {
	r := rand.New(rand.NewSource(1115))
	for range 3000 {
		m := wholeMessage(r)
		s, e := message.Print(m)
		got, g, line := message.Read(s)
		if e != api.OK || g != api.OK || line != 0 || seen(got) != seen(m) || !message.Same(got, m) {
			t.Errorf("G11: Read of Print(%s) = %s, %d, %d", seen(m), seen(got), g, line)
		}
	}
}

// TestPrintOfRead: Print of what Read takes is the text.
func TestPrintOfRead(t *testing.T) {
	r := rand.New(rand.NewSource(1116))
	count := 0
	for range 20000 {
		m := wholeMessage(r)
		m.Fields = m.Fields[:min(len(m.Fields), r.Intn(6))]
		s, _ := message.Print(m)
		s = bentText(r, s)
		m, e, _ := message.Read(s)
		if e != api.OK {
			continue
		}
		count++
		if got, e := message.Print(m); got != s || e != api.OK || !message.Whole(m) {
			t.Errorf("G11: Print of Read(%q) = %q, %d", s, got, e)
		}
	}
	if count < 2000 {
		t.Errorf("the test had %d right texts only", count)
	}
}

// TestAnswersAreWhole: Reply and Reversal of what they take are whole.
func TestAnswersAreWhole(t *testing.T) {
	replies, reversals := 0, 0
	for _, m := range someMessages(1117, 3000) {
		if r, e := message.Reply(m, "00"); e == api.OK {
			replies++
			if !message.Whole(r) {
				t.Errorf("G11: Reply(%s) = %s is not whole", seen(m), seen(r))
			}
		}
		if r, e := message.Reversal(m, "000001", "0101000000"); e == api.OK {
			reversals++
			o, _ := message.Original(m)
			if got, _ := message.Get(r, 90); !message.Whole(r) || got != o || len(o) != 42 {
				t.Errorf("G11: Reversal(%s) = %s is not whole", seen(m), seen(r))
			}
		}
	}
	if replies < 1000 || reversals < 500 {
		t.Errorf("the test had %d replies and %d reversals only", replies, reversals)
	}
}

// TestWithAndGet: With of a field, and Get of its number, is its value; all others stay.
func TestWithAndGet(t *testing.T) {
	r := rand.New(rand.NewSource(1118))
	for range 3000 {
		m, f := wholeMessage(r), someField(r, oneOf(r, told...))
		w, e := message.With(m, f)
		got, ok := message.Get(w, f.Number)
		if e != api.OK || got != f.Value || !ok || !message.Whole(w) {
			t.Errorf("G11: With(%s, %v) = %s, %d", seen(m), f, seen(w), e)
		}
		if !message.Same(message.Without(w, f.Number), message.Without(m, f.Number)) {
			t.Errorf("G4: With(%s, %v) = %s", seen(m), f, seen(w))
		}
	}
}

// TestWithoutAndKeepTogether: they have between them just m's fields.
func TestWithoutAndKeepTogether(t *testing.T) {
	r := rand.New(rand.NewSource(1119))
	for _, m := range append(rows(1120, 2000), someMessages(1121, 300)...) {
		numbers := []int{oneOf(r, 2, 3, 7), oneOf(r, 11, 41, 3), oneOf(r, edges...)}
		out, in := message.Without(m, numbers...).Fields, message.Keep(m, numbers...).Fields
		for _, f := range m.Fields {
			from := &out
			if f.Number == numbers[0] || f.Number == numbers[1] || f.Number == numbers[2] {
				from = &in
			}
			if len(*from) == 0 || seen(of("", (*from)[0])) != seen(of("", f)) {
				t.Fatalf("G11: Without and Keep %v of %s", numbers, seen(m))
			}
			*from = (*from)[1:]
		}
		if len(out)+len(in) != 0 {
			t.Errorf("G11: Without and Keep %v of %s have more", numbers, seen(m))
		}
	}
}
