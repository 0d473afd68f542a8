package seal

import (
	"testing"

	"turnstile/api"
	"turnstile/cipher"
)

// TestRoundsStayAtTheMost: so many changes can't be made one by one: the round is set to the edge.
func TestRoundsStayAtTheMost(t *testing.T) {
	const key, exchange = "some key", "an exchange key!"
	s, _ := NewSlots(1)
	s.Put(0, 1, 1, key, exchange)
	x, _ := cipher.New(exchange)
	wrapped, _ := x.Encrypt(key)
	check, _ := cipher.Check(key)
	s.slots[0].round = 999999997
	for _, want := range []int{999999998, 999999999, 999999999, 999999999} {
		if e := s.Change(0, wrapped, check); e != api.OK || s.Round(0) != want {
			t.Errorf("4.7: Change = %d, Round %d, want %d", e, s.Round(0), want)
		}
	}
	if e := s.Put(0, 1, 1, key, exchange); e != api.OK || s.Round(0) != 0 {
		t.Errorf("4.5: Put = %d, Round %d", e, s.Round(0))
	}
}
