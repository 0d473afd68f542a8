package seal_test

import (
	"math/rand"
	"strings"
	"testing"
	"unsafe"

	"turnstile/api"
	"turnstile/seal"
)

// TestEveryCallAnswers: no call panics, and beside an error there is nothing.
func TestEveryCallAnswers(t *testing.T) {
	r := rand.New(rand.NewSource(52))
	texts := []string{}
	for n := range 34 {
		texts = append(texts, randomText(r, n))
	}
	s := newSlots(t, 4)
	put(t, s, 1, 1, 1, one, exchange)
	put(t, s, 2, 3, 2, pair, exchange)
	put(t, s, 3, 3, 1, pair, "")
	for _, a := range numbers() {
		for _, text := range texts {
			nothingBeside(t, "Pad", text, func() (string, api.Errno) { return seal.Pad(a, text) })
			nothingBeside(t, "Tag of a slot", text, func() (string, api.Errno) { return s.Tag(a, text) })
			for _, b := range numbers() {
				nothingBeside(t, "Tag", text, func() (string, api.Errno) { return seal.Tag(a, b, text, text) })
			}
			if ok, e := s.Right(a, text, text); ok && e != api.OK {
				t.Errorf("P2: Right(%d, %x) = %v, %d", a, text, ok, e)
			}
			s.Change(a, text, text)
			s.Round(a)
		}
	}
}

func nothingBeside(t *testing.T, name, s string, call func() (string, api.Errno)) {
	t.Helper()
	if got, e := call(); e != api.OK && got != "" {
		t.Errorf("P2: %s(%x) = %x, %d", name, s, got, e)
	}
}

// TestAnswersAreNewMemory: also where what comes is, byte by byte, what was handed in.
func TestAnswersAreNewMemory(t *testing.T) {
	whole, part := strings.Clone("a block!another!"), strings.Clone("a part")
	for _, method := range []int{1, 2} {
		for _, text := range []string{whole, part} {
			a, _ := seal.Pad(method, text)
			b, _ := seal.Pad(method, text)
			apart(t, "Pad", a, b, text)
		}
	}
	s := newSlots(t, 1)
	for _, way := range ways() {
		key := strings.Clone(pair[:keySize(way[0])])
		put(t, s, 0, way[0], way[1], key, "")
		a, _ := seal.Tag(way[0], way[1], key, whole)
		b, _ := s.Tag(0, whole)
		c, _ := s.Tag(0, whole)
		apart(t, "Tag", a, b, c, whole, key)
		apart(t, "Tag of a slot", b, c, whole, key)
	}
}

func apart(t *testing.T, name, got string, others ...string) {
	t.Helper()
	from := uintptr(unsafe.Pointer(unsafe.StringData(got)))
	for _, o := range others {
		at := uintptr(unsafe.Pointer(unsafe.StringData(o)))
		if from < at+uintptr(len(o)) && at < from+uintptr(len(got)) {
			t.Errorf("P3: %s answers memory that is another's: %x, %x", name, got, o)
		}
	}
}

// TestNothingIsKept: keys that are written over once they were handed in change nothing.
func TestNothingIsKept(t *testing.T) {
	key, x := []byte(pair), []byte(exchange)
	wrapped := []byte(encrypted(exchange, "another key, 16."))
	check := []byte(checkOf("another key, 16."))
	s := newSlots(t, 1)
	put(t, s, 0, 3, 2, lent(key), lent(x))
	clear(key)
	clear(x)
	has(t, "P3", s, 0, 3, 2, pair, 0)
	if e := s.Change(0, lent(wrapped), lent(check)); e != api.OK {
		t.Errorf("P3: Change = %d", e)
	}
	clear(wrapped)
	clear(check)
	has(t, "P3", s, 0, 3, 2, "another key, 16.", 1)
}

// lent is a text of which the bytes may still be written.
func lent(b []byte) string { return unsafe.String(&b[0], len(b)) }

// model is what a slot has, as the document tells it.
type model struct {
	alg, method   int
	key, exchange string
	round         int
}

func (m *model) put(alg, method int, key, exchange string) api.Errno {
	switch {
	case alg != 1 && alg != 3 || method != 1 && method != 2:
		return api.ErrArg
	case len(key) != keySize(alg) || len(exchange) != 0 && len(exchange) != 16:
		return api.ErrKey
	}
	*m = model{alg, method, key, exchange, 0}
	return api.OK
}

func (m *model) change(wrapped, check string) api.Errno {
	if m.exchange == "" {
		return api.ErrSlot
	}
	if len(wrapped) != len(m.key) {
		return api.ErrKey
	}
	key := decrypted(m.exchange, wrapped)
	for at := 0; at < len(key); at += 8 {
		if isWeak(key[at : at+8]) {
			return api.ErrWeak
		}
	}
	if check != checkOf(key) {
		return api.ErrCheck
	}
	m.key = key
	m.round++
	return api.OK
}

func isWeak(half string) bool {
	for _, w := range weakKeys {
		alike := true
		for i := range 8 {
			alike = alike && half[i]|1 == w[i]|1
		}
		if alike {
			return true
		}
	}
	return false
}

// TestAsTheDocumentTells: many calls, one behind the other, each answered as a plain model does.
func TestAsTheDocumentTells(t *testing.T) {
	r := rand.New(rand.NewSource(53))
	pick := func(of ...string) string { return of[r.Intn(len(of))] }
	for range 60 {
		n := 1 + r.Intn(4)
		s, models := newSlots(t, n), make([]model, n+1)
		for range 120 {
			slot := r.Intn(n + 1)
			m := &models[slot]
			if r.Intn(4) == 0 {
				alg, method := 1+r.Intn(3), 1+r.Intn(12)/5
				key, x := randomText(r, 8<<r.Intn(2)), pick("", exchange, exchange, one)
				want := api.ErrSlot
				if slot < n {
					want = m.put(alg, method, key, x)
				}
				if e := s.Put(slot, alg, method, key, x); e != want {
					t.Fatalf("4.5: Put(%d, %d, %d, %x, %x) = %d, want %d", slot, alg, method, key, x, e, want)
				}
			} else {
				key := pick(one, pair, randomText(r, 8), randomText(r, 16), weakKeys[r.Intn(6)], one+weakKeys[r.Intn(6)])
				wrapped, check := encrypted(exchange, key), pick(checkOf(key), checkOf(key), "abc")
				want := m.change(wrapped, check)
				if e := s.Change(slot, wrapped, check); e != want {
					t.Fatalf("4.7: Change(%d, %x, %x) = %d, want %d", slot, wrapped, check, e, want)
				}
			}
			asModels(t, s, models[:n])
		}
	}
}

func asModels(t *testing.T, s *seal.Slots, models []model) {
	t.Helper()
	for slot, m := range models {
		if m.key == "" {
			if tag, e := s.Tag(slot, "text"); tag != "" || e != api.ErrSlot || s.Round(slot) != 0 {
				t.Fatalf("4.6, 4.8: Tag(%d) of an empty slot = %x, %d", slot, tag, e)
			}
			continue
		}
		want := libraryTag(m.alg, m.method, m.key, "text")
		if tag, e := s.Tag(slot, "text"); tag != want || e != api.OK || s.Round(slot) != m.round {
			t.Fatalf("4.6, 4.8: Tag(%d) = %x, %d, round %d, want %x, %d", slot, tag, e, s.Round(slot), want, m.round)
		}
	}
}
