package standin_test

import (
	"fmt"
	"math"
	"strings"
	"testing"

	"turnstile/api"
	"turnstile/standin"
)

func TestNew(t *testing.T) {
	for _, n := range edges {
		holdsNew(t, n)
	}
	for n := -10; n < 10010; n++ {
		holdsNew(t, n)
	}
}

func holdsNew(t *testing.T, cards int) {
	t.Helper()
	b, e := standin.New(cards)
	if cards < 1 || cards > 10000 {
		if b != nil || e != api.ErrArg {
			t.Errorf("21.1: New(%d) is %d, and a book: %v; must be ErrArg, nil", cards, e, b != nil)
		}
		return
	}
	if b == nil || e != api.OK {
		t.Fatalf("21.1: New(%d) is %d, and a book: %v", cards, e, b != nil)
	}
	length(t, b, 0)
	has(t, b, "a", 0, 0)
	has(t, b, "", 0, 0)
	undoes(t, b, false, "a", 0, 0)
	undoes(t, b, false, "", 0, 0)
	length(t, b, 0)
}

// TestMostCards: at most so many are remembered, and no fewer.
func TestMostCards(t *testing.T) {
	for _, most := range []int{1, 2, 3, 255, 256, 257, 9999, 10000} {
		b := made(t, most)
		for n := range most {
			length(t, b, n)
			gives(t, b, n, n, fmt.Sprint(n))
		}
		for n := range most {
			has(t, b, fmt.Sprint(n), 1, n)
		}
		for n := range 2 * most {
			gives(t, b, n, most, fmt.Sprint("later ", n))
			length(t, b, most)
			has(t, b, fmt.Sprint("later ", n), 1, n)
		}
		for n := range most {
			has(t, b, fmt.Sprint(n), 0, 0)
			has(t, b, fmt.Sprint("later ", n), 0, 0)
			has(t, b, fmt.Sprint("later ", n+most), 1, n+most)
		}
	}
}

// TestFirstError: of several the one named first is told, and nothing has changed.
func TestFirstError(t *testing.T) {
	b := made(t, 2)
	asks(t, b, api.OK, narrow, "a", 90, 5)
	for _, card := range []string{"", "a", "new"} {
		for _, units := range edges {
			for _, window := range edges {
				for _, now := range []int{math.MinInt, -1, 0, 4, 5} {
					want := api.ErrLimit
					switch {
					case card == "":
						want = api.ErrPAN
					case units < 0 || units > most:
						want = api.ErrAmount
					case window < 1 || window > 100000 || now < 5:
						want = api.ErrArg
					}
					asks(t, b, want, limits(0, 0, 0, window), card, units, now)
				}
			}
		}
	}
	length(t, b, 1)
	has(t, b, "a", 1, 90)
	asks(t, b, api.OK, narrow, "a", 60, 5)
}

// TestLimitsRight: each number of them is looked at, by Ask and by Used.
func TestLimitsRight(t *testing.T) {
	for _, n := range edges {
		amount, window := 0 <= n && n <= most, 1 <= n && n <= 100000
		holdsLimits(t, limits(n, most, most, 1), amount)
		holdsLimits(t, limits(most, n, most, 1), amount)
		holdsLimits(t, limits(most, most, n, 1), amount)
		holdsLimits(t, limits(n, n, n, 100000), amount)
		holdsLimits(t, limits(most, most, most, n), window)
		holdsLimits(t, limits(0, 0, 0, n), window)
		holdsLimits(t, limits(n, n, n, n), amount && window)
	}
}

func holdsLimits(t *testing.T, l api.Limits, right bool) {
	t.Helper()
	b := made(t, 1)
	gives(t, b, 3, 0, "a")
	if !right {
		asks(t, b, api.ErrArg, l, "a", 0, 0)
		asks(t, b, api.ErrArg, l, "b", most, 0)
		uses(t, b, l, "a", 0, 0, 0)
		uses(t, b, l, "b", 0, 0, 0)
		return
	}
	uses(t, b, l, "a", 0, 1, 3)
	want := api.ErrLimit
	if l.Count > 1 && l.Sum >= 3 {
		want = api.OK
	}
	asks(t, b, want, l, "a", 0, 0)
}

// TestAmounts: none is refused but such as are none.
func TestAmounts(t *testing.T) {
	for _, n := range edges {
		b := made(t, 1)
		if n < 0 || n > most {
			asks(t, b, api.ErrAmount, wide, "a", n, 0)
			length(t, b, 0)
			continue
		}
		asks(t, b, api.OK, wide, "a", n, 0)
		has(t, b, "a", 1, n)
	}
}

// TestNowRises: it never falls below that of an earlier Ask that was OK, of whichever card, whatever became of it.
func TestNowRises(t *testing.T) {
	b := made(t, 2)
	asks(t, b, api.ErrArg, wide, "a", 1, -1)
	asks(t, b, api.ErrArg, wide, "a", 1, math.MinInt)
	asks(t, b, api.ErrLimit, narrow, "a", 101, 1000)
	asks(t, b, api.ErrAmount, narrow, "a", -1, 1000)
	gives(t, b, 1, 0, "a")
	gives(t, b, 1, 7, "a")
	for now := -1; now < 7; now++ {
		asks(t, b, api.ErrArg, wide, "a", 1, now)
		asks(t, b, api.ErrArg, wide, "b", 1, now)
	}
	gives(t, b, 1, 7, "b")
	undoes(t, b, true, "a", 1, 7)
	undoes(t, b, true, "a", 1, 0)
	undoes(t, b, true, "b", 1, 7)
	length(t, b, 0)
	asks(t, b, api.ErrArg, wide, "a", 1, 6)
	gives(t, b, 1, 8, "a", "b", "c", "d")
	asks(t, b, api.ErrArg, wide, "a", 1, 7)
	asks(t, b, api.ErrLimit, narrow, "c", 101, 9)
	gives(t, b, 1, 8, "c")
	uses(t, b, narrow, "c", 100, 0, 0)
	gives(t, b, 1, 8, "c")
	gives(t, b, 1, math.MaxInt-1, "c")
	gives(t, b, 1, math.MaxInt, "c")
	asks(t, b, api.ErrArg, wide, "c", 1, math.MaxInt-1)
	asks(t, b, api.ErrLimit, limits(1, 2, 9, 2), "c", 1, math.MaxInt)
	uses(t, b, limits(0, 0, 0, 1), "c", math.MaxInt, 1, 1)
	uses(t, b, limits(0, 0, 0, 2), "c", math.MaxInt, 2, 2)
	uses(t, b, limits(0, 0, 0, 100000), "c", math.MaxInt, 2, 2)
	undoes(t, b, true, "c", 1, math.MaxInt)
	has(t, b, "c", 4, 4)
}

// TestSingle: an amount may be just as great as it, and, where it is 0, nothing but 0.
func TestSingle(t *testing.T) {
	for _, n := range []int{0, 1, 2, 100, most - 1, most} {
		b := made(t, 1)
		if n < most {
			asks(t, b, api.ErrLimit, limits(n, most, most, 1), "a", n+1, 0)
			asks(t, b, api.ErrLimit, limits(n, most, most, 1), "a", most, 0)
		}
		length(t, b, 0)
		asks(t, b, api.OK, limits(n, most, most, 1), "a", n, 0)
		has(t, b, "a", 1, n)
	}
}

// TestCount: so many of a card, and no more; of Count 0 not one.
func TestCount(t *testing.T) {
	for _, n := range []int{0, 1, 2, 3, 50, 999, 1000, 1001, 2500} {
		b, l := made(t, 2), limits(9, n, most, 100000)
		for i := range n {
			asks(t, b, api.OK, l, "a", i%2, i)
		}
		asks(t, b, api.ErrLimit, l, "a", 0, n)
		has(t, b, "a", n, n/2)
		if n > 0 {
			asks(t, b, api.OK, l, "b", 0, n)
		}
	}
}

// TestSum: so much of a card together, and no more.
func TestSum(t *testing.T) {
	for _, sum := range []int{0, 1, 2, 150, most - 1, most} {
		b, l := made(t, 2), limits(most, most, sum, 100)
		half := sum / 2
		if sum < most {
			asks(t, b, api.ErrLimit, l, "a", sum+1, 0)
		}
		asks(t, b, api.OK, l, "a", half, 0)
		if sum-half < most {
			asks(t, b, api.ErrLimit, l, "a", sum-half+1, 1)
		}
		asks(t, b, api.OK, l, "a", sum-half, 1)
		asks(t, b, api.ErrLimit, l, "a", 1, 2)
		asks(t, b, api.ErrLimit, l, "a", most, 2)
		asks(t, b, api.OK, l, "a", 0, 2)
		asks(t, b, api.OK, l, "b", sum, 2)
		has(t, b, "a", 3, sum)
	}
}

// TestWindow: an approval counts up to the last tick of it, for Count and for Sum.
func TestWindow(t *testing.T) {
	for _, window := range []int{1, 2, 3, 10, 255, 256, 99999, 100000} {
		for _, at := range []int{0, 1, 77777, math.MaxInt - 200000} {
			once, ten := limits(10, 1, 99, window), limits(10, 9, 10, window)
			b := made(t, 2)
			asks(t, b, api.OK, once, "a", 4, at)
			asks(t, b, api.OK, ten, "b", 6, at)
			for _, now := range []int{at, at + window/2, at + window - 1} {
				asks(t, b, api.ErrLimit, once, "a", 0, now)
				asks(t, b, api.ErrLimit, ten, "b", 5, now)
				uses(t, b, once, "a", now, 1, 4)
				uses(t, b, ten, "b", now, 1, 6)
			}
			uses(t, b, once, "a", at+window, 0, 0)
			uses(t, b, ten, "b", math.MaxInt, 0, 0)
			asks(t, b, api.OK, once, "a", 0, at+window)
			asks(t, b, api.OK, ten, "b", 5, at+window)
			has(t, b, "a", 2, 4)
			has(t, b, "b", 2, 11)
		}
	}
}

// TestLimitsOfEachAsk: what counts is asked anew with the limits of each.
func TestLimitsOfEachAsk(t *testing.T) {
	b := made(t, 1)
	for now := range 10 {
		asks(t, b, api.OK, limits(10, 1, 10, 1), "a", 10, now)
	}
	for window := 1; window <= 10; window++ {
		asks(t, b, api.ErrLimit, limits(0, window, most, window), "a", 0, 9)
		asks(t, b, api.ErrLimit, limits(5, most, 10*window+4, window), "a", 5, 9)
		uses(t, b, limits(0, 0, 0, window), "a", 9, window, 10*window)
		asks(t, b, api.OK, limits(5, window+1, 10*window+5, window), "a", 5, 9)
		undoes(t, b, true, "a", 5, 9)
	}
}

// TestOldOnesStay: they are remembered however long ago they were given, for Used at an earlier tick and for Undo.
func TestOldOnesStay(t *testing.T) {
	b := made(t, 2)
	gives(t, b, 5, 0, "a")
	gives(t, b, 6, 1, "a")
	gives(t, b, 7, 1_000_000_000, "b", "a")
	length(t, b, 2)
	uses(t, b, limits(0, 0, 0, 100000), "a", 1_000_000_000, 1, 7)
	uses(t, b, wide, "a", 999_999_999, 1, 7)
	uses(t, b, wide, "a", 2, 1, 7)
	uses(t, b, wide, "a", 1, 2, 13)
	uses(t, b, wide, "a", 0, 3, 18)
	uses(t, b, limits(0, 0, 0, 2), "a", 1, 3, 18)
	undoes(t, b, true, "a", 5, 0)
	undoes(t, b, true, "a", 7, 1_000_000_000)
	length(t, b, 2)
	has(t, b, "a", 1, 6)
	undoes(t, b, true, "a", 6, 1)
	length(t, b, 1)
}

// TestUsedIsToldNothing: at a tick below 0, and of cards that are not remembered.
func TestUsedIsToldNothing(t *testing.T) {
	b := made(t, 2)
	gives(t, b, 5, 0, "a")
	for _, now := range edges {
		if now < 0 {
			uses(t, b, wide, "a", now, 0, 0)
		}
		for _, card := range []string{"", "b", "aa", "A"} {
			uses(t, b, limits(most, most, most, 100000), card, now, 0, 0)
		}
	}
	has(t, b, "a", 1, 5)
}

// TestCards: any text is one, but the empty one, and each for itself.
func TestCards(t *testing.T) {
	cards := []string{"4111111111111111", "411111111111111", "\x00", "\x00\x00", "\xFF", " ", "a", "A", "a\n", "é", strings.Repeat("9", 10_000), strings.Repeat("9", 10_001)}
	b := made(t, len(cards))
	for i, c := range cards {
		gives(t, b, i, 2*i, c)
		gives(t, b, i, 2*i+1, c)
		length(t, b, i+1)
	}
	asks(t, b, api.ErrPAN, wide, "", 1, 100)
	for i, c := range cards {
		has(t, b, c, 2, 2*i)
		undoes(t, b, true, c, i, 2*i+1)
		has(t, b, c, 1, i)
	}
	ageOrder(t, b, 100, cards...)
}

// TestUndoRefuses: unless the card, the amount and the tick are one approval's.
func TestUndoRefuses(t *testing.T) {
	b := made(t, 3)
	gives(t, b, 5, 1, "a")
	gives(t, b, 6, 2, "a")
	gives(t, b, 7, 2, "b")
	for _, n := range edges {
		for _, card := range []string{"", "a", "b", "c"} {
			undoes(t, b, false, card, n, n)
			undoes(t, b, false, card, 4, n)
			undoes(t, b, false, card, n, 0)
		}
		if n != 1 {
			undoes(t, b, false, "a", 5, n)
		}
		if n != 2 {
			undoes(t, b, false, "a", 6, n)
			undoes(t, b, false, "b", 7, n)
		}
	}
	undoes(t, b, false, "a", 7, 2)
	undoes(t, b, false, "b", 6, 2)
	has(t, b, "a", 2, 11)
	has(t, b, "b", 1, 7)
	undoes(t, b, true, "a", 5, 1)
	undoes(t, b, false, "a", 5, 1)
	undoes(t, b, true, "b", 7, 2)
	undoes(t, b, false, "b", 7, 2)
	undoes(t, b, true, "a", 6, 2)
	undoes(t, b, false, "a", 6, 2)
	length(t, b, 0)
}

// TestUndoMakesRoom: what was undone counts no more.
func TestUndoMakesRoom(t *testing.T) {
	b := made(t, 1)
	asks(t, b, api.OK, narrow, "a", 100, 0)
	asks(t, b, api.OK, narrow, "a", 50, 0)
	asks(t, b, api.ErrLimit, narrow, "a", 0, 0)
	undoes(t, b, true, "a", 100, 0)
	asks(t, b, api.ErrLimit, narrow, "a", 101, 0)
	asks(t, b, api.OK, narrow, "a", 100, 0)
	undoes(t, b, true, "a", 50, 0)
	asks(t, b, api.ErrLimit, narrow, "a", 51, 0)
	asks(t, b, api.OK, narrow, "a", 50, 0)
	has(t, b, "a", 2, 150)
}

// TestUndoOneOfEqual: each Undo takes back but one, in whatever order.
func TestUndoOneOfEqual(t *testing.T) {
	b := made(t, 1)
	gives(t, b, 3, 0, "a", "a", "a")
	gives(t, b, 0, 0, "a", "a")
	for n := 3; n > 0; n-- {
		has(t, b, "a", n+2, 3*n)
		undoes(t, b, true, "a", 3, 0)
	}
	undoes(t, b, false, "a", 3, 0)
	undoes(t, b, true, "a", 0, 0)
	has(t, b, "a", 1, 0)
	length(t, b, 1)
	undoes(t, b, true, "a", 0, 0)
	undoes(t, b, false, "a", 0, 0)
	length(t, b, 0)
}

// TestForgetsOldest: by each card's last approval, in the order in which they were given, not by ticks, and not by how many a card has.
func TestForgetsOldest(t *testing.T) {
	b := made(t, 3)
	gives(t, b, 1, 5, "a", "b", "c", "a", "b", "a", "c", "c")
	ageOrder(t, b, 5, "b", "a", "c")
	b = made(t, 3)
	gives(t, b, 1, 5, "a", "b", "c", "a")
	gives(t, b, 1, 6, "b")
	ageOrder(t, b, 6, "c", "a", "b")
	b = made(t, 1)
	gives(t, b, 1, 5, "a", "a", "b")
	remembers(t, b, 1, "a", "b")
	gives(t, b, 1, 5, "a")
	has(t, b, "a", 1, 1)
	remembers(t, b, 1, "b", "a")
}

// TestRefusedStaysOld: an Ask that was refused, a Used, and an Undo that found nothing make no card younger.
func TestRefusedStaysOld(t *testing.T) {
	b := made(t, 2)
	gives(t, b, 1, 0, "a", "b")
	asks(t, b, api.ErrLimit, narrow, "a", 101, 1)
	asks(t, b, api.ErrLimit, narrow, "c", 101, 1)
	asks(t, b, api.ErrArg, limits(0, 0, 0, 0), "a", 0, 1)
	asks(t, b, api.ErrAmount, narrow, "a", -1, 1)
	has(t, b, "a", 1, 1)
	undoes(t, b, false, "a", 2, 0)
	ageOrder(t, b, 0, "a", "b")
}

// TestUndoMakesOlder: a card whose last approval is undone is as old as the one ahead of that.
func TestUndoMakesOlder(t *testing.T) {
	give := func() *standin.Book {
		b := made(t, 4)
		gives(t, b, 1, 0, "a", "b", "c")
		gives(t, b, 2, 0, "d", "c", "b", "a")
		return b
	}
	ageOrder(t, give(), 0, "d", "c", "b", "a")
	b := give()
	undoes(t, b, true, "a", 2, 0)
	ageOrder(t, b, 0, "a", "d", "c", "b")
	b = give()
	undoes(t, b, true, "b", 2, 0)
	ageOrder(t, b, 0, "b", "d", "c", "a")
	b = give()
	undoes(t, b, true, "c", 2, 0)
	undoes(t, b, true, "a", 2, 0)
	undoes(t, b, true, "b", 2, 0)
	ageOrder(t, b, 0, "a", "b", "c", "d")
	b = give()
	undoes(t, b, true, "a", 1, 0)
	undoes(t, b, true, "b", 1, 0)
	ageOrder(t, b, 0, "d", "c", "b", "a")
	b = give()
	undoes(t, b, true, "d", 2, 0)
	gives(t, b, 2, 0, "e")
	ageOrder(t, b, 0, "c", "b", "a", "e")
}

// TestUndoTakesFirst: of equal ones, however many stand between them; so the card stays as young as the last of them.
func TestUndoTakesFirst(t *testing.T) {
	for _, between := range []int{0, 1, 500, 997, 998, 999, 1000, 1001, 1998, 1999, 2000, 5000} {
		for range 20 { // a map may be gone through in the right order by chance
			b := made(t, 3)
			gives(t, b, 5, 3, "a")
			for range between {
				gives(t, b, 1, 3, "a")
			}
			gives(t, b, 5, 3, "b", "c", "b", "a")
			undoes(t, b, true, "a", 5, 3)
			undoes(t, b, true, "b", 5, 3)
			has(t, b, "a", between+1, between+5)
			ageOrder(t, b, 3, "c", "b", "a")
		}
	}
}

// TestForgottenBeginsAnew: nothing of what a card had counts, when it comes again.
func TestForgottenBeginsAnew(t *testing.T) {
	b := made(t, 2)
	asks(t, b, api.OK, narrow, "a", 100, 0)
	asks(t, b, api.OK, narrow, "a", 50, 0)
	asks(t, b, api.ErrLimit, narrow, "a", 0, 0)
	gives(t, b, 1, 0, "b", "c")
	has(t, b, "a", 0, 0)
	undoes(t, b, false, "a", 100, 0)
	asks(t, b, api.OK, narrow, "a", 100, 0)
	has(t, b, "a", 1, 100)
	remembers(t, b, 1, "b", "c", "a")
}

// TestGreatestSums: as much as can count at all is added up rightly.
func TestGreatestSums(t *testing.T) {
	b := made(t, 1)
	for now := range 100_001 {
		asks(t, b, api.OK, wide, "a", most, now)
	}
	uses(t, b, limits(0, 0, 0, 100000), "a", 100_000, 100_000, 100_000*most)
	uses(t, b, limits(0, 0, 0, 99999), "a", 100_000, 99_999, 99_999*most)
	uses(t, b, limits(0, 0, 0, 100000), "a", 99_999, 100_001, 100_001*most)
	has(t, b, "a", 100_001, 100_001*most)
	all := limits(most, most, most, 100000)
	asks(t, b, api.ErrLimit, all, "a", 0, 100_000)
	asks(t, b, api.ErrLimit, all, "a", 0, 199_998)
	asks(t, b, api.ErrLimit, all, "a", 1, 199_999)
	asks(t, b, api.OK, all, "a", 0, 199_999)
	asks(t, b, api.OK, all, "a", most, 200_000)
}

// TestEachTickOfMany: of many approvals just those count that must, whichever of them is asked for, and each can be undone.
func TestEachTickOfMany(t *testing.T) {
	for _, n := range []int{1, 2, 999, 1000, 1001, 1999, 2000, 2001, 3500} {
		b := made(t, 2)
		for now := range n {
			gives(t, b, now, now, "a")
		}
		for now := range n {
			uses(t, b, wide, "a", now, n-now, (n-now)*(n-1+now)/2)
		}
		for now := range n {
			undoes(t, b, false, "a", now, now+1)
			undoes(t, b, true, "a", now, now)
			if left := n - 1 - now; now%100 == 0 || left < 3 {
				uses(t, b, wide, "a", now, left, left*(n+now)/2)
			}
		}
		length(t, b, 0)
	}
}
