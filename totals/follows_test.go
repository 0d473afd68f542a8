package totals_test

import (
	"fmt"
	"math/rand"
	"slices"
	"testing"

	"turnstile/api"
	"turnstile/totals"
)

// TestAllShort: every list of four things that can be done, held against the second reading at each step.
func TestAllShort(t *testing.T) {
	do := []func(b *both){
		func(b *both) { b.note(0, debit(5), says("0210", "00")) },
		func(b *both) { b.note(0, credit(5), says("0210", "00")) },
		func(b *both) { b.note(0, debit(5), says("0210", "05")) },
		func(b *both) { b.note(1, debit(3), says("0210", "00")) },
		func(b *both) { b.note(0, request("0220", "20", "2"), says("0230", "00")) },
		func(b *both) { b.note(0, request("0120", "00", "2"), says("0130", "05")) },
		func(b *both) { b.note(0, creditBack(5), says("0430", "00")) },
		func(b *both) { b.note(0, debitBack(5), says("0430", "00")) },
		func(b *both) { b.note(0, debit(5), says("0230", "00")) },
		func(b *both) { b.settle(0, of("0500")) },
		func(b *both) { b.settle(0, of("0500", field(76, "0000000001"), field(86, "0000000000000005"))) },
		func(b *both) { b.settle(1, of("0500", field(88, "0000000000000003"))) },
	}
	all := len(do) * len(do) * len(do) * len(do)
	for n := range all {
		b := newBoth(t, 2)
		for i, k := 0, n; i < 4; i, k = i+1, k/len(do) {
			do[k%len(do)](b)
			b.stands()
		}
	}
}

// TestAnything: long lists, held against the second reading; and, without it, that Requests is Approved and Declined together.
func TestAnything(t *testing.T) {
	r := rand.New(rand.NewSource(2201))
	seen := map[string]int{}
	for range 300 {
		b := newBoth(t, oneOf(r, 1, 2, 3, 5, 32))
		for i := range 300 {
			b.anything(r)
			if i%10 == 9 {
				b.stands()
			}
			for link := range b.m {
				if c, _ := b.b.Counts(link); c.Requests != c.Approved+c.Declined {
					t.Fatalf("22.6: of %d requests %d were approved and %d declined", c.Requests, c.Approved, c.Declined)
				}
			}
		}
		for e, n := range b.seen {
			seen[fmt.Sprint("answer ", int(e))] += n
		}
		seen["agreed"] += b.agreed
		seen["disagreed"] += b.disagreed
		seen["refused to settle"] += b.refusedToSettle
		seen["yes"] += b.yeses
		seen["no"] += b.noes
		seen["credit"] += b.credit
	}
	for what, least := range map[string]int{"answer 0": 30000, "answer 40": 2000, "answer 111": 20000, "agreed": 2000, "disagreed": 1000, "refused to settle": 2000, "yes": 5000, "no": 5000, "credit": 5000} {
		if seen[what] < least {
			t.Errorf("of %s the test saw only %d; %v", what, seen[what], seen)
		}
	}
}

// TestNearTheMost: great amounts, until sums are nearly full, and while they are.
func TestNearTheMost(t *testing.T) {
	r := rand.New(rand.NewSource(2202))
	b, great := made(t, 1), []func(int) api.Message{credit, creditBack, debit, debitBack}
	var want [4]int
	refused := 0
	for range 100_000 {
		k, n := r.Intn(4), oneOf(r, mostAmount, mostAmount, mostAmount, r.Intn(mostAmount), 0, 1)
		x, e := great[k](n), api.OK
		if want[k]+n > mostSum {
			e = api.ErrTotals
			refused++
		} else {
			want[k] += n
		}
		notes(t, b, e, 0, x, says(answerOf(x.MTI), "00"))
		if c, _ := b.Counts(0); [4]int{c.CreditSum, c.CreditBackSum, c.DebitSum, c.DebitBackSum} != want {
			t.Fatalf("22.2: the sums are %+v; must be %v", c, want)
		}
	}
	if refused < 1000 {
		t.Errorf("the test saw only %d refused", refused)
	}
}

// TestAnyOrder: several pairs, in any order, lead to the same counts; and of one link they change no other one.
func TestAnyOrder(t *testing.T) {
	r := rand.New(rand.NewSource(2203))
	for range 200 {
		var l []pair
		for range 1 + r.Intn(30) {
			x, y := somePair(r)
			l = append(l, pair{x, y})
		}
		var first api.Counts
		for i := range 8 {
			b := made(t, 3)
			approves(t, b, 0, debit(1))
			approves(t, b, 2, credit(2))
			for _, p := range l {
				b.Note(1, p.x, p.y)
			}
			c, _ := b.Counts(1)
			if i == 0 {
				first = c
			}
			if c != first {
				t.Fatalf("22.6: in another order %+v is counted; must be %+v", c, first)
			}
			counts(t, b, 0, api.Counts{Requests: 1, Approved: 1, Debits: 1, DebitSum: 1})
			counts(t, b, 2, api.Counts{Requests: 1, Approved: 1, Credits: 1, CreditSum: 2})
			r.Shuffle(len(l), func(i, j int) { l[i], l[j] = l[j], l[i] })
		}
	}
}

// TestSettleOfFields: a message with just what Fields tells agrees, and all is 0 then.
func TestSettleOfFields(t *testing.T) {
	r := rand.New(rand.NewSource(2204))
	for range 300 {
		b := newBoth(t, 1+r.Intn(5))
		for range r.Intn(100) {
			b.anything(r)
		}
		for link := range b.m {
			l, e := b.b.Fields(link)
			if e != api.OK {
				t.Fatalf("22.3: Fields(%d) = %d", link, e)
			}
			settles(t, b.b, true, link, of(oneOf(r, "0500", "0501", "1500", "1501"), l...))
			b.m[link] = nil
			b.stands()
		}
	}
}

// TestSumOfOne: it is its Counts; and that of several does not hang on their order.
func TestSumOfOne(t *testing.T) {
	r := rand.New(rand.NewSource(2206))
	for range 100 {
		links := 1 + r.Intn(32)
		var l []*totals.Book
		for range 1 + r.Intn(20) {
			b := newBoth(t, links)
			for range r.Intn(50) {
				b.anything(r)
			}
			var want []api.Counts
			for link := range links {
				c, _ := b.b.Counts(link)
				want = append(want, c)
			}
			sums(t, []*totals.Book{b.b}, want...)
			l = append(l, b.b)
		}
		first, e := totals.Sum(l...)
		for range 5 {
			r.Shuffle(len(l), func(i, j int) { l[i], l[j] = l[j], l[i] })
			if again, f := totals.Sum(l...); !slices.Equal(again, first) || e != f {
				t.Fatalf("22.6: Sum in another order = %+v, %d; must be %+v, %d", again, f, first, e)
			}
		}
	}
}
