package standin_test

import (
	"math"
	"math/rand"
	"testing"

	"turnstile/api"
	"turnstile/standin"
)

const most = 999999999999

// edges are numbers at and about those that the chapter names, and far from them.
var edges = []int{math.MinInt, math.MinInt + 1, -most - 1, -most, -1 << 32, -100000, -10000, -2, -1, 0, 1, 2, 3, 9999, 10000, 10001, 99999, 100000, 100001, 1<<32 + 1, most - 1, most, most + 1, most + 2, math.MaxInt - 1, math.MaxInt}

// narrow are the limits of the chapter's examples, wide such as hold nothing back within a tick.
var (
	narrow = limits(100, 2, 150, 10)
	wide   = limits(most, most, most, 1)
)

func limits(single, count, sum, window int) api.Limits {
	return api.Limits{Single: single, Count: count, Sum: sum, Window: window}
}

func made(t *testing.T, cards int) *standin.Book {
	t.Helper()
	b, e := standin.New(cards)
	if b == nil || e != api.OK {
		t.Fatalf("21.1: New(%d) is %d, and a book: %v", cards, e, b != nil)
	}
	return b
}

func asks(t *testing.T, b *standin.Book, want api.Errno, l api.Limits, card string, units, now int) {
	t.Helper()
	if e := b.Ask(l, card, units, now); e != want {
		t.Fatalf("21.2: Ask(%+v, %.50q, %d, %d) = %d; must be %d", l, card, units, now, e, want)
	}
}

// gives has approvals of one amount given, card by card.
func gives(t *testing.T, b *standin.Book, units, now int, cards ...string) {
	t.Helper()
	for _, c := range cards {
		asks(t, b, api.OK, wide, c, units, now)
	}
}

func undoes(t *testing.T, b *standin.Book, want bool, card string, units, at int) {
	t.Helper()
	if b.Undo(card, units, at) != want {
		t.Fatalf("21.3: Undo(%.50q, %d, %d) = %v; must be %v", card, units, at, !want, want)
	}
}

func uses(t *testing.T, b *standin.Book, l api.Limits, card string, now, count, sum int) {
	t.Helper()
	if n, s := b.Used(l, card, now); n != count || s != sum {
		t.Fatalf("21.4: Used(%+v, %.50q, %d) = %d, %d; must be %d, %d", l, card, now, n, s, count, sum)
	}
}

// has holds how many approvals of a card are remembered, and their amounts together: at 0 all count.
func has(t *testing.T, b *standin.Book, card string, count, sum int) {
	t.Helper()
	uses(t, b, wide, card, 0, count, sum)
}

func length(t *testing.T, b *standin.Book, want int) {
	t.Helper()
	if n := b.Len(); n != want {
		t.Fatalf("21.4: Len is %d; must be %d", n, want)
	}
}

// remembers holds that of some cards just the first so many are remembered no more.
func remembers(t *testing.T, b *standin.Book, gone int, cards ...string) {
	t.Helper()
	length(t, b, len(cards)-gone)
	for i, c := range cards {
		if n, _ := b.Used(wide, c, 0); (n > 0) != (i >= gone) {
			t.Fatalf("21.2: of %q the card %q has %d approvals; the first %d must have none", cards, c, n, gone)
		}
	}
}

// ageOrder holds in which order a full book forgets its cards: the one whose last approval is oldest first.
func ageOrder(t *testing.T, b *standin.Book, now int, cards ...string) {
	t.Helper()
	remembers(t, b, 0, cards...)
	for i := range cards {
		fresh := "fresh " + string(rune('a'+i))
		gives(t, b, 1, now, fresh)
		cards = append(cards, fresh)
		remembers(t, b, i+1, cards...)
	}
}

func oneOf[T any](r *rand.Rand, l ...T) T { return l[r.Intn(len(l))] }
