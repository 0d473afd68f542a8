package card_test

import (
	"math/rand"
	"testing"

	"turnstile/api"
	"turnstile/card"
)

// What follows (C7).

func TestTracksComeBack(t *testing.T) {
	r := rand.New(rand.NewSource(6))
	taken := 0
	for range 40000 {
		s := randomTrack(r)
		x, e, _ := card.ReadTrack(s)
		if e != api.OK {
			continue
		}
		taken++
		if back, e := card.WriteTrack(x); back != s || e != api.OK {
			t.Errorf("C7: WriteTrack of ReadTrack(%q) = %q, %d", s, back, e)
		}
	}
	if taken < 1000 {
		t.Errorf("the test took %d tracks only", taken)
	}
}

// TestWhatIsSaidComesBack: whatever the parts are made of, what WriteTrack takes is read as it was.
func TestWhatIsSaidComesBack(t *testing.T) {
	r := rand.New(rand.NewSource(7))
	part := func(most int) string {
		s := []byte(randomDigits(r, r.Intn(most+1)))
		if len(s) > 0 && r.Intn(8) == 0 {
			s[r.Intn(len(s))] = "=x\x00"[r.Intn(3)]
		}
		return string(s)
	}
	taken := 0
	for range 200000 {
		x := api.Track{PAN: part(20), Expiry: part(4), Service: part(3), Rest: part(30)}
		s, e := card.WriteTrack(x)
		if (e == api.OK) != mayBeSaid(x) {
			t.Errorf("C5: WriteTrack(%q) = %q, %d", x, s, e)
		}
		if e != api.OK {
			continue
		}
		taken++
		if back, e, at := card.ReadTrack(s); back != x || e != api.OK || at != 0 {
			t.Errorf("C7: ReadTrack of WriteTrack(%q) = %q, %d, %d", x, back, e, at)
		}
	}
	if taken < 1000 {
		t.Errorf("the test took %d tracks only", taken)
	}
}

// TestOneDigitTurned: each one, into each other.
func TestOneDigitTurned(t *testing.T) {
	r := rand.New(rand.NewSource(8))
	for n := 2; n < 40; n++ {
		s := balancedDigits(r, n)
		if !card.Luhn(s) {
			t.Errorf("C1: Luhn(%q) = false", s)
		}
		for place := range s {
			for c := byte('0'); c <= '9'; c++ {
				turned := s[:place] + string([]byte{c}) + s[place+1:]
				if card.Luhn(turned) != (turned == s) {
					t.Errorf("C7: Luhn(%q) = %t, as of %q", turned, card.Luhn(turned), s)
				}
				if n >= 12 && n <= 19 && turned != s && card.Right(turned) != api.ErrLuhn {
					t.Errorf("C7: Right(%q) = %d", turned, card.Right(turned))
				}
			}
		}
	}
}

// TestTwoDigitsThatChangePlaces: of 0 and 9, which count alike in both places, none is seen.
func TestTwoDigitsThatChangePlaces(t *testing.T) {
	r := rand.New(rand.NewSource(9))
	for n := 2; n < 40; n++ {
		for range 20 {
			s := balancedDigits(r, n)
			for place := 1; place < n; place++ {
				a, b := s[place-1], s[place]
				changed := s[:place-1] + string([]byte{b, a}) + s[place+1:]
				alike := a == b || a == '0' && b == '9' || a == '9' && b == '0'
				if card.Luhn(changed) != alike {
					t.Errorf("C7: Luhn(%q) = %t, of %q with two that changed places", changed, !alike, s)
				}
			}
		}
	}
}
