package standin_test

import (
	"math/rand"
	"slices"
	"testing"

	"turnstile/api"
	"turnstile/standin"
)

// A second reading of the chapter: one list of all approvals that are remembered, in their order; all else is found by going through it.

type given struct {
	card        string
	units, tick int
}

type reading struct {
	cards  int
	newest int // now of those Asks that were OK
	all    []given
}

func right(l api.Limits) bool {
	for _, n := range []int{l.Single, l.Count, l.Sum} {
		if n < 0 || n > 999999999999 {
			return false
		}
	}
	return l.Window >= 1 && l.Window <= 100000
}

func (m *reading) counts(card string, window, now int) (int, int) {
	n, sum := 0, 0
	for _, g := range m.all {
		if g.card == card && now-g.tick < window {
			n, sum = n+1, sum+g.units
		}
	}
	return n, sum
}

// known is the cards that are remembered, by their last approvals.
func (m *reading) known() []string {
	var l []string
	for _, g := range slices.Backward(m.all) {
		if !slices.Contains(l, g.card) {
			l = append(l, g.card)
		}
	}
	slices.Reverse(l)
	return l
}

func (m *reading) ask(l api.Limits, card string, units, now int) api.Errno {
	if card == "" {
		return api.ErrPAN
	}
	if units < 0 || units > 999999999999 {
		return api.ErrAmount
	}
	if !right(l) || now < 0 || now < m.newest {
		return api.ErrArg
	}
	n, sum := m.counts(card, l.Window, now)
	if units > l.Single || n >= l.Count || sum+units > l.Sum {
		return api.ErrLimit
	}
	m.newest = now
	m.all = append(m.all, given{card, units, now})
	if cards := m.known(); len(cards) > m.cards {
		m.all = slices.DeleteFunc(m.all, func(g given) bool { return g.card == cards[0] })
	}
	return api.OK
}

func (m *reading) undo(card string, units, at int) bool {
	i := slices.Index(m.all, given{card, units, at})
	if i < 0 {
		return false
	}
	m.all = slices.Delete(m.all, i, i+1)
	return true
}

func (m *reading) used(l api.Limits, card string, now int) (int, int) {
	if !right(l) || now < 0 {
		return 0, 0
	}
	return m.counts(card, l.Window, now)
}

// both is a book, and what the chapter says of it.
type both struct {
	t   *testing.T
	b   *standin.Book
	m   reading
	now int

	seen      map[api.Errno]int
	forgotten int
	undone    int
	notUndone int
}

func newBoth(t *testing.T, cards int) *both {
	t.Helper()
	return &both{t: t, b: made(t, cards), m: reading{cards: cards}, seen: map[api.Errno]int{}}
}

func (b *both) ask(l api.Limits, card string, units, now int) api.Errno {
	b.t.Helper()
	before := len(b.m.all)
	e := b.b.Ask(l, card, units, now)
	if f := b.m.ask(l, card, units, now); e != f {
		b.t.Fatalf("21.2: Ask(%+v, %.50q, %d, %d) = %d; must be %d", l, card, units, now, e, f)
	}
	b.seen[e]++
	if e == api.OK && len(b.m.all) <= before {
		b.forgotten++
	}
	return e
}

func (b *both) undo(card string, units, at int) {
	b.t.Helper()
	got := b.b.Undo(card, units, at)
	if want := b.m.undo(card, units, at); got != want {
		b.t.Fatalf("21.3: Undo(%.50q, %d, %d) = %v; must be %v", card, units, at, got, want)
	}
	if got {
		b.undone++
	} else {
		b.notUndone++
	}
}

func (b *both) used(l api.Limits, card string, now int) {
	b.t.Helper()
	n, sum := b.b.Used(l, card, now)
	if k, s := b.m.used(l, card, now); n != k || sum != s {
		b.t.Fatalf("21.4: Used(%+v, %.50q, %d) = %d, %d; must be %d, %d", l, card, now, n, sum, k, s)
	}
}

var cardNames = []string{"a", "b", "c", "d", "4111111111111111", "\x00", "a\x00"}

// stands asks all that changes nothing.
func (b *both) stands() {
	b.t.Helper()
	length(b.t, b.b, len(b.m.known()))
	for _, c := range cardNames {
		b.used(wide, c, 0)
		for _, window := range []int{1, 2, 5, 100000} {
			b.used(limits(0, 0, 0, window), c, b.now)
		}
	}
}

// forgetsAlike has other cards come, until none of those that are remembered is left.
func (b *both) forgetsAlike() {
	b.t.Helper()
	for i := range b.m.cards {
		b.ask(wide, "other "+string(rune('a'+i)), 1, b.now)
		b.stands()
	}
}

// anything does one thing, of any kind.
func (b *both) anything(r *rand.Rand) {
	b.t.Helper()
	card := oneOf(r, cardNames...)
	switch r.Intn(20) {
	case 0, 1:
		b.now += oneOf(r, 0, 1, 1, 2, 5, 100, 100000)
	case 2:
		b.undo(card, r.Intn(3), b.now-r.Intn(3))
	case 3, 4, 5:
		if len(b.m.all) > 0 {
			g := oneOf(r, b.m.all...)
			b.undo(g.card, g.units, g.tick)
		}
	case 6:
		b.used(limits(oneOf(r, edges...), 1, 1, 1+r.Intn(9)), card, oneOf(r, edges...))
	case 7:
		b.ask(oneOf(r, narrow, limits(1, 1, -1, 1)), oneOf(r, card, ""), oneOf(r, edges...), b.now-oneOf(r, 0, 0, 0, 1))
	case 8, 9:
		b.ask(narrow, card, r.Intn(110), b.now)
	default:
		b.ask(limits(r.Intn(20), 1+r.Intn(9), r.Intn(60), 1+r.Intn(9)), card, r.Intn(r.Intn(20)+1), b.now)
	}
	length(b.t, b.b, len(b.m.known()))
	b.used(oneOf(r, narrow, wide), card, max(0, b.now-r.Intn(12)))
}
