package totals_test

import (
	"math/rand"
	"runtime"
	"slices"
	"testing"
	"time"

	"turnstile/api"
	"turnstile/totals"
)

// TestSumRefuses: of none, and of books that are not alike, wherever the other one stands; ahead of what has no room.
func TestSumRefuses(t *testing.T) {
	refusesSum(t, api.ErrArg)
	refusesSum(t, api.ErrArg, []*totals.Book{}...)
	full := made(t, 2)
	fillsSum(t, full, 0, debit)
	refusesSum(t, api.ErrTotals, full, full)
	for n := 2; n <= 40; n++ {
		for at := range n {
			for _, links := range []int{1, 3, 32} {
				l := slices.Repeat([]*totals.Book{full}, n)
				l[at] = made(t, links)
				refusesSum(t, api.ErrArg, l...)
			}
		}
	}
	one := made(t, 1)
	refusesSum(t, api.ErrArg, one, full, one)
	refusesSum(t, api.ErrArg, full, one, one)
}

// TestSumOfSums: room up to the most, and no further, in whichever link and whichever book it stands.
func TestSumOfSums(t *testing.T) {
	for _, of := range []func(int) api.Message{credit, creditBack, debit, debitBack} {
		full, one, none := made(t, 3), made(t, 3), made(t, 3)
		fillsSum(t, full, 1, of)
		approves(t, one, 1, of(1))
		approves(t, none, 1, of(0))
		approves(t, none, 0, of(5))
		approves(t, none, 2, of(7))
		refusesSum(t, api.ErrTotals, full, one)
		refusesSum(t, api.ErrTotals, one, full)
		refusesSum(t, api.ErrTotals, full, full)
		refusesSum(t, api.ErrTotals, none, one, none, full, none)
		l, e := totals.Sum(none, full, none)
		if len(l) != 3 || e != api.OK {
			t.Fatalf("22.5: Sum = %+v, %d", l, e)
		}
		if c := l[1]; max(c.CreditSum, c.CreditBackSum, c.DebitSum, c.DebitBackSum) != mostSum {
			t.Errorf("22.5: Sum at the most = %+v", c)
		}
		c := l[2]
		if max(c.CreditSum, c.CreditBackSum, c.DebitSum, c.DebitBackSum) != 14 {
			t.Errorf("22.5: Sum of another link = %+v", c)
		}
	}
}

// TestSumOfNumbers: 99999 of 100001 books are together just the most.
func TestSumOfNumbers(t *testing.T) {
	cases := []struct {
		x, y api.Message
		want api.Counts
	}{
		{credit(0), says("0210", "00"), api.Counts{Requests: mostNumber, Approved: mostNumber, Credits: mostNumber}},
		{debit(0), says("0210", "51"), api.Counts{Requests: mostNumber, Declined: mostNumber}},
		{of("0120"), says("0130", "00"), api.Counts{Advices: mostNumber, Debits: mostNumber}},
		{creditBack(0), says("0430", "00"), api.Counts{CreditsBack: mostNumber}},
		{debitBack(0), says("0430", "00"), api.Counts{DebitsBack: mostNumber}},
	}
	for _, c := range cases {
		b, one := made(t, 2), made(t, 2)
		for range 99999 {
			notes(t, b, api.OK, 1, c.x, c.y)
		}
		notes(t, one, api.OK, 1, c.x, c.y)
		l := slices.Repeat([]*totals.Book{b}, 100001)
		sums(t, l, api.Counts{}, c.want)
		sums(t, append(l, made(t, 2)), api.Counts{}, c.want)
		refusesSum(t, api.ErrTotals, append(l, one)...)
		l[77777] = one
		if l, e := totals.Sum(append(l, one)...); len(l) != 2 || e != api.OK {
			t.Errorf("22.5: Sum below the most = %+v, %d", l, e)
		}
	}
}

// TestSumOfMany: of any number of books, some of them several times, in whatever order; the books stay.
func TestSumOfMany(t *testing.T) {
	r := rand.New(rand.NewSource(2205))
	for _, links := range []int{1, 2, 3, 31, 32} {
		var books []*both
		for range 40 {
			b := newBoth(t, links)
			for range r.Intn(60) {
				b.anything(r)
			}
			books = append(books, b)
		}
		for n := 1; n <= 100; n++ {
			var l []*totals.Book
			all := make([][]api.Counts, links)
			for range n {
				b := oneOf(r, books...)
				l = append(l, b.b)
				for link, c := range b.all() {
					all[link] = append(all[link], c)
				}
			}
			var want []api.Counts
			for link := range links {
				c, _ := total(all[link]...)
				want = append(want, c)
			}
			sums(t, l, want...)
			r.Shuffle(n, func(i, j int) { l[i], l[j] = l[j], l[i] })
			sums(t, l, want...)
		}
		for _, b := range books {
			b.stands()
			b.anything(r)
			b.stands()
		}
	}
}

// TestSumLeavesNobody: whoever added up for Sum has ended, or is about to.
func TestSumLeavesNobody(t *testing.T) {
	before := runtime.NumGoroutine()
	b, other, full := made(t, 2), made(t, 3), made(t, 2)
	fillsSum(t, full, 1, credit)
	for n := range 50 {
		totals.Sum(slices.Repeat([]*totals.Book{b}, n)...)
		totals.Sum(b, other)
		totals.Sum(slices.Repeat([]*totals.Book{full}, n)...)
	}
	for range 1000 {
		if runtime.NumGoroutine() <= before {
			return
		}
		time.Sleep(5 * time.Millisecond)
	}
	t.Errorf("22.5: behind Sum there are %d goroutines, ahead of it %d", runtime.NumGoroutine(), before)
}
