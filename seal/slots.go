package seal

import (
	"sync"

	"turnstile/api"
	"turnstile/cipher"
	"turnstile/digits"
)

const (
	exchangeSize = 16
	mostRounds   = 999999999
)

// Slots are the keys of links.
type Slots struct {
	guard sync.Mutex
	slots []held
}

// held is what one slot has.
type held struct {
	sealer   *sealer       // nil: the slot is empty
	exchange *cipher.Block // nil: there is no exchange key
	round    int
}

// NewSlots makes so many, without keys.
func NewSlots(n int) (*Slots, api.Errno) {
	if n < 1 || n > api.MaxLinks {
		return nil, api.ErrArg
	}
	return &Slots{slots: make([]held, n)}, api.OK
}

// Put lays keys in a slot.
func (s *Slots) Put(slot, alg, method int, key, exchange string) api.Errno {
	s.guard.Lock()
	defer s.guard.Unlock()
	in := s.at(slot)
	if in == nil {
		return api.ErrSlot
	}
	k, e := newSealer(alg, method, key)
	if e != api.OK {
		return e
	}
	x, e := exchangeKey(exchange)
	if e != api.OK {
		return e
	}
	in.sealer, in.exchange, in.round = k, x, 0
	return api.OK
}

// Tag is the tag of bytes under a slot's key.
func (s *Slots) Tag(slot int, text string) (string, api.Errno) {
	s.guard.Lock()
	defer s.guard.Unlock()
	in := s.at(slot)
	if in == nil || in.sealer == nil {
		return "", api.ErrSlot
	}
	return in.sealer.tag(text), api.OK
}

// Right tells whether a tag is theirs.
func (s *Slots) Right(slot int, text, tag string) (bool, api.Errno) {
	own, e := s.Tag(slot, text)
	return e == api.OK && Same(own, tag), e
}

// Change takes a new key, which came under the slot's exchange key, with its check value.
func (s *Slots) Change(slot int, wrapped, check string) api.Errno {
	s.guard.Lock()
	defer s.guard.Unlock()
	in := s.at(slot)
	if in == nil || in.exchange == nil {
		return api.ErrSlot
	}
	if len(wrapped) != keySize(in.sealer.alg) {
		return api.ErrKey
	}
	key, _ := in.exchange.Decrypt(wrapped) // a key is whole blocks
	if e := fit(key, check); e != api.OK {
		return e
	}
	in.sealer, _ = newSealer(in.sealer.alg, in.sealer.method, key) // it has the length of the old one
	in.round = digits.Count(in.round, 1, mostRounds)
	return api.OK
}

// Round is how often a slot's key was changed.
func (s *Slots) Round(slot int) int {
	s.guard.Lock()
	defer s.guard.Unlock()
	in := s.at(slot)
	if in == nil {
		return 0
	}
	return in.round
}

// at is nil, if there is no such slot. The guard is the caller's to hold.
func (s *Slots) at(slot int) *held {
	if slot < 0 || slot >= len(s.slots) {
		return nil
	}
	return &s.slots[slot]
}

// exchangeKey is nil of an empty text: a slot may do without.
func exchangeKey(exchange string) (*cipher.Block, api.Errno) {
	switch len(exchange) {
	case 0:
		return nil, api.OK
	case exchangeSize:
		return cipher.New(exchange)
	}
	return nil, api.ErrKey
}

// fit tells why a new key is not taken.
func fit(key, check string) api.Errno {
	if cipher.Weak(key) {
		return api.ErrWeak
	}
	if right, _ := cipher.Check(key); !Same(right, check) {
		return api.ErrCheck
	}
	return api.OK
}
