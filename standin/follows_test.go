package standin_test

import (
	"fmt"
	"math/rand"
	"testing"

	"turnstile/api"
)

// TestAllShort: every list of five things that can be done, of books of one to three cards, held against the second reading at each step; and in which order cards are forgotten then.
func TestAllShort(t *testing.T) {
	tight := limits(2, 2, 3, 2)
	do := []func(b *both){
		func(b *both) { b.now++ },
		func(b *both) { b.ask(tight, "a", 1, b.now) },
		func(b *both) { b.ask(tight, "a", 2, b.now) },
		func(b *both) { b.ask(wide, "a", 1, b.now) },
		func(b *both) { b.ask(tight, "b", 1, b.now) },
		func(b *both) { b.ask(wide, "c", 1, b.now) },
		func(b *both) { b.undo("a", 1, b.now) },
		func(b *both) { b.undo("a", 2, b.now) },
		func(b *both) { b.undo("b", 1, 0) },
	}
	total := 1
	for range 5 {
		total *= len(do)
	}
	for cards := 1; cards <= 3; cards++ {
		for n := range total {
			b := newBoth(t, cards)
			for i, k := 0, n; i < 5; i, k = i+1, k/len(do) {
				do[k%len(do)](b)
				length(t, b.b, len(b.m.known()))
			}
			b.stands()
			b.forgetsAlike()
		}
	}
}

// TestAnything: long lists, held against the second reading.
func TestAnything(t *testing.T) {
	r := rand.New(rand.NewSource(2101))
	seen := map[string]int{}
	for range 400 {
		b := newBoth(t, oneOf(r, 1, 2, 3, 4, 5, 7, 10000))
		for i := range 500 {
			b.anything(r)
			if i%20 == 19 {
				b.stands()
			}
		}
		if b.m.cards <= 7 {
			b.forgetsAlike()
		}
		for e, n := range b.seen {
			seen[fmt.Sprint("answer ", int(e))] += n
		}
		seen["forgotten"] += b.forgotten
		seen["undone"] += b.undone
		seen["not undone"] += b.notUndone
	}
	for what, least := range map[string]int{"answer 0": 20000, "answer 1": 500, "answer 50": 2000, "answer 71": 1000, "answer 210": 20000, "forgotten": 5000, "undone": 10000, "not undone": 1000} {
		if seen[what] < least {
			t.Errorf("of %s the test saw only %d; %v", what, seen[what], seen)
		}
	}
}

// TestManyApprovals: of few cards thousands, some of them undone again, held against the second reading.
func TestManyApprovals(t *testing.T) {
	r := rand.New(rand.NewSource(2102))
	for _, step := range []int{1, 30, 900, 100_000} {
		b := newBoth(t, 3)
		for i := range 6000 {
			if r.Intn(step) == 0 {
				b.now += oneOf(r, 1, 2, 3000)
			}
			card := oneOf(r, "a", "a", "a", "a", "b")
			b.ask(limits(most, most, most, 1+r.Intn(3000)), card, r.Intn(3), b.now)
			if r.Intn(4) == 0 {
				g := oneOf(r, b.m.all...)
				b.undo(g.card, g.units, g.tick)
			}
			if i%10 == 0 {
				b.used(limits(0, 0, 0, 1+r.Intn(100_000)), card, r.Intn(b.now+5000))
			}
		}
		b.stands()
		b.forgetsAlike()
	}
}

// ledger is all that was approved of a card, since it was last forgotten.
type ledger struct{ ticks, units []int }

// within holds that at ticks which lie less than a window apart there are no more approvals, and no greater amounts, than the limits allow.
func (c ledger) within(t *testing.T, l api.Limits) {
	t.Helper()
	for i, from := range c.ticks {
		n, sum := 0, 0
		for j, tick := range c.ticks[i:] {
			if tick-from < l.Window {
				n, sum = n+1, sum+c.units[i+j]
			}
		}
		if n > l.Count || sum > l.Sum {
			t.Fatalf("21.5: of %+v, at %d ticks from %d on, there are %d approvals of %d together", l, l.Window, from, n, sum)
		}
	}
}

// TestNeverMoreThanLimits: what follows, without a second reading: with the same limits at each Ask, and no Undo.
func TestNeverMoreThanLimits(t *testing.T) {
	r := rand.New(rand.NewSource(2103))
	full, refused := 0, 0
	for range 300 {
		b, now := made(t, oneOf(r, 2, 4)), 0
		l := limits(1+r.Intn(50), 1+r.Intn(6), r.Intn(200), 1+r.Intn(30))
		ledgers := map[string]*ledger{}
		for range 400 {
			now += r.Intn(r.Intn(10) + 1)
			card, units := oneOf(r, "a", "b", "c", "d"), r.Intn(60)
			if n, _ := b.Used(wide, card, 0); n == 0 {
				ledgers[card] = &ledger{}
			}
			c := ledgers[card]
			if e := b.Ask(l, card, units, now); e != api.OK {
				refused++
				continue
			}
			c.ticks, c.units = append(c.ticks, now), append(c.units, units)
			if n, _ := b.Used(l, card, now); n == l.Count {
				full++
			}
			has(t, b, card, len(c.ticks), sumOf(c.units))
		}
		for _, c := range ledgers {
			c.within(t, l)
		}
	}
	if full < 3000 || refused < 10000 {
		t.Errorf("the test saw only %d times as many as may be, and %d refused", full, refused)
	}
}

func sumOf(l []int) int {
	sum := 0
	for _, n := range l {
		sum += n
	}
	return sum
}

// told is what Used tells of all cards, at many ticks in many windows, and Len.
func (b *both) told() string {
	var l []any
	for _, c := range cardNames {
		for _, window := range []int{1, 2, 9, 10, 11, 100000} {
			for _, back := range []int{-100000, -1, 0, 1, 2, 9, 10, 11, 100} {
				n, s := b.b.Used(limits(0, 0, 0, window), c, max(0, b.now-back))
				l = append(l, n, s)
			}
		}
	}
	return fmt.Sprint(append(l, b.b.Len())...)
}

// TestUndoOfAsk: behind an Ask that was OK, and with which no card was forgotten, and the Undo of that approval, Used and Len are as they were; and behind an Ask that was refused.
func TestUndoOfAsk(t *testing.T) {
	r := rand.New(rand.NewSource(2104))
	undone, refused := 0, 0
	for range 100 {
		b := newBoth(t, oneOf(r, 3, len(cardNames)))
		for range 100 {
			b.anything(r)
			before, card, units := b.told(), oneOf(r, cardNames...), r.Intn(9)
			if n, _ := b.b.Used(wide, card, 0); n == 0 && b.b.Len() == b.m.cards {
				continue // another card would be forgotten
			}
			if b.ask(limits(7, 3, 20, 9), card, units, b.now) == api.OK {
				b.undo(card, units, b.now)
				undone++
			} else {
				refused++
			}
			if b.told() != before {
				t.Fatalf("21.5: Used or Len is not as it was")
			}
		}
	}
	if undone < 2000 || refused < 500 {
		t.Errorf("the test saw only %d undone, and %d refused", undone, refused)
	}
}
