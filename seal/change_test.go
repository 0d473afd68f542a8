package seal_test

import (
	"strings"
	"sync"
	"testing"

	"turnstile/api"
)

var weakKeys = []string{
	"\x01\x01\x01\x01\x01\x01\x01\x01",
	"\xFE\xFE\xFE\xFE\xFE\xFE\xFE\xFE",
	"\xE0\xE0\xE0\xE0\xF1\xF1\xF1\xF1",
	"\x1F\x1F\x1F\x1F\x0E\x0E\x0E\x0E",
	"\x00\x01\x00\x01\x01\x01\x00\x00", // the lowest bits are not looked at
	"\xE1\xE1\xE0\xE0\xF0\xF1\xF0\xF1",
}

func TestChange(t *testing.T) {
	for _, way := range ways() {
		alg, method := way[0], way[1]
		size := keySize(alg)
		s := newSlots(t, 3)
		put(t, s, 1, alg, method, pair[:size], exchange)
		for round, key := range []string{"some keywith halves.", "another!one of halves", "a third one, of halves"} {
			key = key[:size]
			if e := s.Change(1, encrypted(exchange, key), checkOf(key)); e != api.OK {
				t.Errorf("4.7: Change to %q = %d", key, e)
			}
			has(t, "4.7", s, 1, alg, method, key, round+1)
		}
	}
}

// TestChangeToTheSameKey: it counts as a change.
func TestChangeToTheSameKey(t *testing.T) {
	s := newSlots(t, 1)
	put(t, s, 0, 1, 2, one, exchange)
	for round := 1; round < 5; round++ {
		if e := s.Change(0, encrypted(exchange, one), checkOf(one)); e != api.OK {
			t.Errorf("4.7: Change = %d", e)
		}
		has(t, "4.7", s, 0, 1, 2, one, round)
	}
}

func TestChangeAsksForTheLength(t *testing.T) {
	for _, alg := range []int{1, 3} {
		s := newSlots(t, 1)
		put(t, s, 0, alg, 1, pair[:keySize(alg)], exchange)
		for n := range 42 {
			if n == keySize(alg) {
				continue
			}
			for _, check := range []string{"", "abc", checkOf(one)} {
				if e := s.Change(0, strings.Repeat("w", n), check); e != api.ErrKey {
					t.Errorf("4.7: Change by algorithm %d with %d bytes = %d, want ErrKey", alg, n, e)
				}
			}
		}
		has(t, "4.9", s, 0, alg, 1, pair[:keySize(alg)], 0)
	}
}

// TestChangeToAWeakKey: refused, whatever is said as its check value; of halves either one may be weak.
func TestChangeToAWeakKey(t *testing.T) {
	s := newSlots(t, 2)
	put(t, s, 0, 1, 1, one, exchange)
	put(t, s, 1, 3, 1, pair, exchange)
	for _, w := range weakKeys {
		for slot, keys := range [][]string{{w}, {w + w, w + one, one + w}} {
			for _, key := range keys {
				for _, check := range []string{checkOf(key), "", "abc", noughts} {
					if e := s.Change(slot, encrypted(exchange, key), check); e != api.ErrWeak {
						t.Errorf("4.7: Change to %x with %x = %d, want ErrWeak", key, check, e)
					}
				}
			}
		}
	}
	has(t, "4.9", s, 0, 1, 1, one, 0)
	has(t, "4.9", s, 1, 3, 1, pair, 0)
}

func TestChangeAsksForTheCheckValue(t *testing.T) {
	for _, alg := range []int{1, 3} {
		s := newSlots(t, 1)
		old, key := pair[:keySize(alg)], "a good key, as it seems"[:keySize(alg)]
		put(t, s, 0, alg, 1, old, exchange)
		right := checkOf(key)
		wrong := []string{"", right[:1], right[:2], right + "\x00", encrypted(key, noughts), checkOf(old), "\x00\x00\x00", right[1:] + right[:1]}
		if alg == 3 {
			wrong = append(wrong, checkOf(key[:8]), checkOf(key[8:]))
		}
		for bit := range 24 {
			b := []byte(right)
			b[bit/8] ^= 1 << (bit % 8)
			wrong = append(wrong, string(b))
		}
		for _, check := range wrong {
			if e := s.Change(0, encrypted(exchange, key), check); e != api.ErrCheck {
				t.Errorf("4.7: Change by algorithm %d with %x = %d, want ErrCheck", alg, check, e)
			}
		}
		has(t, "4.9", s, 0, alg, 1, old, 0)
		if e := s.Change(0, encrypted(exchange, key), right); e != api.OK {
			t.Errorf("4.7: Change by algorithm %d with the right one = %d", alg, e)
		}
		has(t, "4.7", s, 0, alg, 1, key, 1)
	}
}

// TestChangeWithoutAnExchangeKey: refused ahead of all else.
func TestChangeWithoutAnExchangeKey(t *testing.T) {
	s := newSlots(t, 2)
	put(t, s, 0, 1, 1, one, "")
	put(t, s, 1, 3, 1, pair, "")
	for slot := range 2 {
		for _, wrapped := range []string{"", one, pair, weakKeys[0]} {
			if e := s.Change(slot, wrapped, checkOf(one)); e != api.ErrSlot {
				t.Errorf("4.7: Change(%d) without an exchange key = %d, want ErrSlot", slot, e)
			}
		}
	}
	has(t, "4.9", s, 0, 1, 1, one, 0)
	has(t, "4.9", s, 1, 3, 1, pair, 0)
}

// TestTheExchangeKeyStays: a key that comes under the slot's old or new key is not taken.
func TestTheExchangeKeyStays(t *testing.T) {
	s := newSlots(t, 1)
	const fresh = "a new key, of 16"
	put(t, s, 0, 3, 1, pair, exchange)
	for _, under := range []string{pair, fresh} {
		if e := s.Change(0, encrypted(under, fresh), checkOf(fresh)); e != api.ErrCheck {
			t.Errorf("4.7: Change under another key = %d, want ErrCheck", e)
		}
	}
	if e := s.Change(0, encrypted(exchange, fresh), checkOf(fresh)); e != api.OK {
		t.Errorf("4.7: Change = %d", e)
	}
	if e := s.Change(0, encrypted(fresh, pair), checkOf(pair)); e != api.ErrCheck {
		t.Errorf("4.7: Change under the new key = %d, want ErrCheck", e)
	}
	if e := s.Change(0, encrypted(exchange, pair), checkOf(pair)); e != api.OK {
		t.Errorf("4.7: Change back = %d", e)
	}
	has(t, "4.7", s, 0, 3, 1, pair, 2)
}

// TestGuardedSlots: changes that come from several sides at one time are all counted.
func TestGuardedSlots(t *testing.T) {
	s := newSlots(t, 1)
	put(t, s, 0, 1, 1, one, exchange)
	wrapped, check := encrypted(exchange, one), checkOf(one)
	want := tagOf(t, 1, 1, one, "text")
	var all sync.WaitGroup
	for range 8 {
		all.Go(func() {
			for range 300 {
				s.Change(0, wrapped, check)
				if ok, e := s.Right(0, "text", want); !ok || e != api.OK {
					t.Errorf("4.6: Right among changes = %v, %d", ok, e)
				}
			}
		})
	}
	all.Wait()
	if r := s.Round(0); r != 8*300 {
		t.Errorf("4.7: Round behind %d changes = %d", 8*300, r)
	}
}
