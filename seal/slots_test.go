package seal_test

import (
	"strings"
	"testing"

	"turnstile/api"
	"turnstile/seal"
)

func TestNewSlots(t *testing.T) {
	for n := -40; n < 80; n++ {
		s, e := seal.NewSlots(n)
		if n < 1 || n > 32 {
			if s != nil || e != api.ErrArg {
				t.Errorf("4.4: NewSlots(%d) = %v, %d, want ErrArg", n, s, e)
			}
			continue
		}
		if s == nil || e != api.OK {
			t.Errorf("4.4: NewSlots(%d) = %v, %d", n, s, e)
		}
	}
	for _, n := range []int{-1 << 63, 1<<63 - 1, 1<<32 + 1, 1 << 31} {
		if s, e := seal.NewSlots(n); s != nil || e != api.ErrArg {
			t.Errorf("4.4: NewSlots(%d) = %v, %d, want ErrArg", n, s, e)
		}
	}
}

func TestNewSlotsAreEmpty(t *testing.T) {
	s := newSlots(t, 32)
	for slot := range 32 {
		if tag, e := s.Tag(slot, "x"); tag != "" || e != api.ErrSlot {
			t.Errorf("4.4, 4.6: Tag(%d) of an empty slot = %x, %d, want ErrSlot", slot, tag, e)
		}
		if ok, e := s.Right(slot, "x", ""); ok || e != api.ErrSlot {
			t.Errorf("4.4, 4.6: Right(%d) of an empty slot = %v, %d, want ErrSlot", slot, ok, e)
		}
		if e := s.Change(slot, one, ""); e != api.ErrSlot {
			t.Errorf("4.4, 4.7: Change(%d) of an empty slot = %d, want ErrSlot", slot, e)
		}
		if r := s.Round(slot); r != 0 {
			t.Errorf("4.8: Round(%d) of an empty slot = %d", slot, r)
		}
	}
}

// TestSoManySlots: there are just those from 0 on.
func TestSoManySlots(t *testing.T) {
	for n := 1; n <= 32; n++ {
		s := newSlots(t, n)
		for slot := range n {
			put(t, s, slot, 1, 1, one, exchange)
		}
		for _, slot := range append(numbers(), n, n+1, 2*n) {
			if slot >= 0 && slot < n {
				continue
			}
			if e := s.Put(slot, 9, 9, "", "x"); e != api.ErrSlot {
				t.Errorf("4.5: Put(%d) of %d slots = %d, want ErrSlot", slot, n, e)
			}
			if tag, e := s.Tag(slot, "x"); tag != "" || e != api.ErrSlot {
				t.Errorf("4.6: Tag(%d) of %d slots = %x, %d, want ErrSlot", slot, n, tag, e)
			}
			if ok, e := s.Right(slot, "x", ""); ok || e != api.ErrSlot {
				t.Errorf("4.6: Right(%d) of %d slots = %v, %d, want ErrSlot", slot, n, ok, e)
			}
			if e := s.Change(slot, "", ""); e != api.ErrSlot {
				t.Errorf("4.7: Change(%d) of %d slots = %d, want ErrSlot", slot, n, e)
			}
			if r := s.Round(slot); r != 0 {
				t.Errorf("4.8: Round(%d) of %d slots = %d", slot, n, r)
			}
		}
	}
}

// TestPutRefuses: ErrSlot, ErrArg and ErrKey count in this order, and the slot stays as it was.
func TestPutRefuses(t *testing.T) {
	s := newSlots(t, 2)
	put(t, s, 0, 3, 2, pair, "")
	for _, alg := range numbers() {
		for _, method := range numbers() {
			for _, n := range []int{0, 1, 7, 8, 9, 15, 16, 17, 24, 32} {
				for _, x := range []int{0, 1, 8, 15, 16, 17, 24, 32} {
					want := api.OK
					switch {
					case alg != 1 && alg != 3 || method != 1 && method != 2:
						want = api.ErrArg
					case n != keySize(alg) || x != 0 && x != 16:
						want = api.ErrKey
					}
					key, exchange := strings.Repeat("k", n), strings.Repeat("x", x)
					slot := 0
					if want == api.OK {
						slot = 1
					}
					if e := s.Put(slot, alg, method, key, exchange); e != want {
						t.Fatalf("4.5: Put(%d, %d, %d) of %d, %d bytes = %d, want %d", slot, alg, method, n, x, e, want)
					}
					if e := s.Put(2, alg, method, key, exchange); e != api.ErrSlot {
						t.Fatalf("4.5: Put(2, %d, %d) of %d, %d bytes = %d, want ErrSlot", alg, method, n, x, e)
					}
				}
			}
		}
	}
	has(t, "4.9", s, 0, 3, 2, pair, 0)
}

// TestPutRefusedAtAnEmptySlot: it stays empty.
func TestPutRefusedAtAnEmptySlot(t *testing.T) {
	s := newSlots(t, 1)
	for _, e := range []api.Errno{s.Put(0, 2, 1, one, exchange), s.Put(0, 1, 1, pair, exchange), s.Put(0, 1, 1, one, one)} {
		if e == api.OK {
			t.Errorf("4.5: Put = %d", e)
		}
		if tag, e := s.Tag(0, "x"); tag != "" || e != api.ErrSlot {
			t.Errorf("4.9: Tag behind a Put that was refused = %x, %d, want ErrSlot", tag, e)
		}
	}
}

// TestPutTakesWeakKeys: none is asked.
func TestPutTakesWeakKeys(t *testing.T) {
	for _, c := range []string{"\x00", "\x01", "\xFE", "\xFF"} {
		s := newSlots(t, 2)
		key := strings.Repeat(c, 16)
		put(t, s, 0, 1, 1, key[:8], key)
		put(t, s, 1, 3, 2, key, key)
		has(t, "4.5", s, 0, 1, 1, key[:8], 0)
		has(t, "4.5", s, 1, 3, 2, key, 0)
	}
}

// TestPutAnew: nothing is left of what the slot had.
func TestPutAnew(t *testing.T) {
	s := newSlots(t, 1)
	const fresh = "a newkey"
	put(t, s, 0, 1, 1, one, exchange)
	if e := s.Change(0, encrypted(exchange, fresh), checkOf(fresh)); e != api.OK {
		t.Fatalf("4.7: Change = %d", e)
	}
	has(t, "4.7", s, 0, 1, 1, fresh, 1)
	put(t, s, 0, 3, 2, pair, "")
	has(t, "4.5", s, 0, 3, 2, pair, 0)
	if e := s.Change(0, encrypted(exchange, pair), checkOf(pair)); e != api.ErrSlot {
		t.Errorf("4.5: Change without an exchange key = %d, want ErrSlot", e)
	}
	put(t, s, 0, 3, 1, pair, "a 2nd exchange..")
	if e := s.Change(0, encrypted("a 2nd exchange..", pair), checkOf(pair)); e != api.OK {
		t.Errorf("4.5: Change under the exchange key of a second Put = %d", e)
	}
	has(t, "4.5", s, 0, 3, 1, pair, 1)
}

// TestSlotsKnowNothingOfOneAnother: each has its own.
func TestSlotsKnowNothingOfOneAnother(t *testing.T) {
	s, other := newSlots(t, 32), newSlots(t, 32)
	keys := []string{}
	for slot := range 32 {
		alg, method := ways()[slot%4][0], ways()[slot%4][1]
		key := strings.Repeat(string(rune('A'+slot)), 7) + "." + strings.Repeat(string(rune('A'+slot)), 8)
		keys = append(keys, key[:keySize(alg)])
		put(t, s, slot, alg, method, keys[slot], exchange)
		if _, e := other.Tag(slot, "x"); e != api.ErrSlot {
			t.Errorf("4.4: slots that were made apart share slot %d: %d", slot, e)
		}
	}
	for slot := range 32 {
		has(t, "4.6", s, slot, ways()[slot%4][0], ways()[slot%4][1], keys[slot], 0)
	}
	if e := s.Change(5, encrypted(exchange, one), checkOf(one)); e != api.OK {
		t.Fatalf("4.7: Change(5) = %d", e)
	}
	keys[5] = one
	for slot := range 32 {
		round := 0
		if slot == 5 {
			round = 1
		}
		has(t, "4.7", s, slot, ways()[slot%4][0], ways()[slot%4][1], keys[slot], round)
	}
}
