package saf_test

import (
	"fmt"
	"math"
	"slices"
	"testing"

	"turnstile/api"
	"turnstile/saf"
)

func TestNew(t *testing.T) {
	for _, n := range edges {
		holdsNew(t, n, 1, 1)
		holdsNew(t, 1, n, 1)
		holdsNew(t, 1, 1, n)
		holdsNew(t, 10000, n, 100)
		holdsNew(t, n, 100000, 100)
		holdsNew(t, 10000, 100000, n)
		holdsNew(t, n, n, 1)
		holdsNew(t, n, n, n)
	}
	for n := -10; n < 10010; n++ {
		holdsNew(t, n, 2, 3)
		holdsNew(t, 2, 3, n)
	}
}

func holdsNew(t *testing.T, most, retry, tries int) {
	t.Helper()
	q, e := saf.New(most, retry, tries)
	if most < 1 || most > 10000 || retry < 1 || retry > 100000 || tries < 1 || tries > 100 {
		if q != nil || e != api.ErrArg {
			t.Errorf("S1: New(%d, %d, %d) is %d, and a queue: %v; must be ErrArg, nil", most, retry, tries, e, q != nil)
		}
		return
	}
	if q == nil || e != api.OK {
		t.Fatalf("S1: New(%d, %d, %d) is %d, and a queue: %v", most, retry, tries, e, q != nil)
	}
	holdsEmpty(t, q)
	q.Break()
	q.Tick()
	holdsEmpty(t, q)
}

// holdsEmpty holds that nothing waits, and nothing was ever given up.
func holdsEmpty(t *testing.T, q *saf.Queue) {
	t.Helper()
	stands(t, q, 0)
	silent(t, q, false)
	silent(t, q, true)
	answers(t, q, false, 0, 1)
	gone(t, q)
}

// TestFull: as many wait as may, whether one is under way or not, and one more as soon as one waits no more.
func TestFull(t *testing.T) {
	for _, most := range []int{1, 2, 3, 17, 255, 256, 257, 9999, 10000} {
		q := made(t, most, 1, 1)
		var want []api.Advice
		for n := range most {
			puts(t, q, api.OK, numbered(n))
			want = append(want, numbered(n))
		}
		for n := range 3 {
			puts(t, q, api.ErrQueue, numbered(-1))
			first(t, q, n%most)
			puts(t, q, api.ErrQueue, numbered(-1))
			answers(t, q, true, n%most)
			want = append(want[1:], want[0])
			puts(t, q, api.OK, numbered(n%most))
			puts(t, q, api.ErrQueue, numbered(-1))
		}
		stands(t, q, 0, want...)
		first(t, q, want[0].Number)
		q.Tick()
		if most == 1 {
			silent(t, q, true)
		} else {
			first(t, q, want[1].Number)
		}
		puts(t, q, api.OK, numbered(-1))
		puts(t, q, api.ErrQueue, numbered(-2))
		stands(t, q, 1, append(want[1:], numbered(-1))...)
	}
}

// TestQueueAheadOfTwice: where both apply, ErrQueue is told.
func TestQueueAheadOfTwice(t *testing.T) {
	q := made(t, 3, 2, 2)
	puts(t, q, api.OK, several(1, 2)...)
	puts(t, q, api.ErrTwice, several(1, 2)...)
	puts(t, q, api.OK, numbered(3))
	puts(t, q, api.ErrQueue, several(1, 2, 3, 4)...)
	stands(t, q, 0, several(1, 2, 3)...)
	first(t, q, 1)
	puts(t, q, api.ErrQueue, numbered(1))
	answers(t, q, true, 1)
	puts(t, q, api.ErrTwice, several(2, 3)...)
	puts(t, q, api.OK, numbered(1))
	stands(t, q, 0, several(2, 3, 1)...)
}

// TestTwice: the Number counts, whatever it is, and nothing beside it, wherever its advice stands in the queue.
func TestTwice(t *testing.T) {
	q := made(t, 10000, 3, 2)
	var want []api.Advice
	for i, n := range edges {
		a := advice("a", n)
		a.Link = i % 2
		puts(t, q, api.OK, a)
		want = append(want, a)
		for _, m := range edges[:i+1] {
			puts(t, q, api.ErrTwice, advice("b", m), api.Advice{Link: 9, Number: m})
		}
	}
	stands(t, q, 0, want...)
	for i, a := range want {
		sends(t, q, a.Message)
		for _, m := range edges {
			if m != a.Number {
				answers(t, q, false, m)
			}
		}
		puts(t, q, api.ErrTwice, a)
		answers(t, q, true, a.Number)
		stands(t, q, 0, want[i+1:]...)
	}
}

// TestNumberAgain: the Number of one that was answered or given up may be had again, and what waits by it begins anew.
func TestNumberAgain(t *testing.T) {
	q := made(t, 5, 2, 2)
	puts(t, q, api.OK, numbered(1))
	first(t, q, 1)
	answers(t, q, true, 1)
	puts(t, q, api.OK, numbered(1))
	answers(t, q, false, 1)
	first(t, q, 1)
	ticks(q, 2)
	again(t, q, 1)
	ticks(q, 2)
	puts(t, q, api.ErrTwice, numbered(1))
	silent(t, q, true)
	puts(t, q, api.OK, numbered(1))
	answers(t, q, false, 1)
	first(t, q, 1)
	silent(t, q, true)
	ticks(q, 2)
	again(t, q, 1)
	ticks(q, 2)
	silent(t, q, true)
	gone(t, q, 1, 1)
	stands(t, q, 2)
}

// TestNotReady: nothing is sent, and nothing is given up, as long as the link is not ready.
func TestNotReady(t *testing.T) {
	q := made(t, 5, 2, 1)
	puts(t, q, api.OK, several(1, 2)...)
	silent(t, q, false)
	answers(t, q, false, 1)
	first(t, q, 1)
	silent(t, q, false)
	ticks(q, 10)
	silent(t, q, false)
	gone(t, q)
	stands(t, q, 0, several(1, 2)...)
	q.Break()
	silent(t, q, false)
	stands(t, q, 0, several(1, 2)...)
	first(t, q, 2)
	gone(t, q, 1)
	stands(t, q, 1, numbered(2))
	silent(t, q, false)
	answers(t, q, true, 2)
}

// TestRetryToTheTick: one that is under way is sent again behind just so many ticks, and given up likewise.
func TestRetryToTheTick(t *testing.T) {
	for _, retry := range []int{1, 2, 3, 7, 255, 256, 99999, 100000} {
		for _, tries := range []int{1, 2, 3, 5} {
			q := made(t, 2, retry, tries)
			ticks(q, 3)
			puts(t, q, api.OK, numbered(1))
			ticks(q, retry+3)
			first(t, q, 1)
			for range tries - 1 {
				holdsOneTick(t, q, retry)
				again(t, q, 1)
			}
			holdsOneTick(t, q, retry)
			stands(t, q, 0, numbered(1))
			gone(t, q)
			silent(t, q, true)
			stands(t, q, 1)
			gone(t, q, 1)
		}
	}
}

// holdsOneTick lets just so many ticks go by; a tick ahead of that, and at once, nothing goes out.
func holdsOneTick(t *testing.T, q *saf.Queue, retry int) {
	t.Helper()
	silent(t, q, true)
	ticks(q, retry-1)
	silent(t, q, true)
	silent(t, q, false)
	q.Tick()
}

// TestTries: it goes out just so often, by ticks, by breaks, and by both.
func TestTries(t *testing.T) {
	ways := []func(q *saf.Queue, n int){
		func(q *saf.Queue, n int) { ticks(q, 2) },
		func(q *saf.Queue, n int) { q.Break() },
		func(q *saf.Queue, n int) { q.Break(); ticks(q, n%4) },
		func(q *saf.Queue, n int) { ticks(q, n%4); q.Break() },
		func(q *saf.Queue, n int) { ticks(q, 2+n%9) },
	}
	for tries := 1; tries <= 100; tries++ {
		for _, way := range ways {
			q := made(t, 2, 2, tries)
			puts(t, q, api.OK, several(1, 2)...)
			for _, number := range []int{1, 2} {
				first(t, q, number)
				for n := range tries - 1 {
					way(q, n)
					again(t, q, number)
				}
				way(q, tries)
			}
			silent(t, q, true)
			gone(t, q, 1, 2)
			stands(t, q, 2)
		}
	}
}

// TestTicksAheadDoNotCount: those that went by ahead of being sent, or when another one was first, or ahead of a break.
func TestTicksAheadDoNotCount(t *testing.T) {
	q := made(t, 5, 3, 5)
	ticks(q, 10)
	puts(t, q, api.OK, several(1, 2)...)
	ticks(q, 10)
	first(t, q, 1)
	ticks(q, 2)
	silent(t, q, true)
	answers(t, q, true, 1)
	first(t, q, 2)
	ticks(q, 2)
	silent(t, q, true)
	q.Break()
	ticks(q, 2)
	again(t, q, 2)
	ticks(q, 2)
	silent(t, q, true)
	q.Tick()
	again(t, q, 2)
	silent(t, q, true)
	ticks(q, 50)
	again(t, q, 2)
	ticks(q, 2)
	silent(t, q, true)
	stands(t, q, 0, numbered(2))
}

// TestOneAtATime: with nothing between, one call of Next sends one message.
func TestOneAtATime(t *testing.T) {
	q := made(t, 10, 1, 1)
	puts(t, q, api.OK, several(5, 3, 9, 1)...)
	first(t, q, 5)
	silent(t, q, true)
	q.Tick()
	first(t, q, 3)
	silent(t, q, true)
	gone(t, q, 5)
	q.Break()
	first(t, q, 9)
	silent(t, q, true)
	stands(t, q, 2, several(9, 1)...)
	gone(t, q, 3)
	answers(t, q, true, 9)
	first(t, q, 1)
	q.Tick()
	silent(t, q, true)
	gone(t, q, 1)
	stands(t, q, 3)
}

// TestAnswer: only of the first one, only as long as it is under way, and only once.
func TestAnswer(t *testing.T) {
	q := made(t, 5, 3, 3)
	puts(t, q, api.OK, several(1, 2, 3)...)
	answers(t, q, false, 1, 2, 3, 0)
	first(t, q, 1)
	answers(t, q, false, 2, 3, 0, -1)
	stands(t, q, 0, several(1, 2, 3)...)
	silent(t, q, true)
	answers(t, q, true, 1)
	answers(t, q, false, 1, 2, 3)
	stands(t, q, 0, several(2, 3)...)
	first(t, q, 2)
	ticks(q, 50) // it is under way still: it was not given up
	answers(t, q, true, 2)
	first(t, q, 3)
	ticks(q, 3)
	again(t, q, 3)
	ticks(q, 2)
	answers(t, q, true, 3)
	answers(t, q, false, 3, 0)
	silent(t, q, true)
	gone(t, q)
	stands(t, q, 0)
}

// TestAnswerAtLast: all tries are used up and all ticks are over, but it was not given up yet.
func TestAnswerAtLast(t *testing.T) {
	q := made(t, 5, 3, 2)
	puts(t, q, api.OK, several(1, 2)...)
	first(t, q, 1)
	ticks(q, 3)
	again(t, q, 1)
	ticks(q, 10)
	silent(t, q, false)
	answers(t, q, true, 1)
	first(t, q, 2)
	silent(t, q, true)
	gone(t, q)
	stands(t, q, 0, numbered(2))
}

// TestNumberNought: an empty queue, and one whose first was not sent, has no answer for 0.
func TestNumberNought(t *testing.T) {
	q := made(t, 5, 3, 1)
	answers(t, q, false, 0)
	puts(t, q, api.OK, advice("nought", 0))
	puts(t, q, api.ErrTwice, advice("nought once more", 0))
	answers(t, q, false, 0)
	sends(t, q, advice("nought", 0).Message)
	answers(t, q, true, 0)
	answers(t, q, false, 0)
	puts(t, q, api.OK, advice("nought", 0))
	sends(t, q, advice("nought", 0).Message)
	q.Break()
	silent(t, q, true)
	gone(t, q, 0)
	answers(t, q, false, 0)
}

// TestBreak: what was sent stays sent, whatever else stands in the queue.
func TestBreak(t *testing.T) {
	q := made(t, 5, 3, 3)
	puts(t, q, api.OK, several(1, 2)...)
	q.Break()
	first(t, q, 1)
	q.Break()
	q.Break()
	answers(t, q, false, 1)
	stands(t, q, 0, several(1, 2)...)
	again(t, q, 1)
	silent(t, q, true)
	ticks(q, 3)
	q.Break()
	again(t, q, 1)
	answers(t, q, false, 2)
	answers(t, q, true, 1)
	q.Break()
	first(t, q, 2)
	answers(t, q, true, 2)
	q.Break()
	stands(t, q, 0)
}

// TestBreakAtLast: one that was sent as often as may be, and is under way no more, is given up at once when the link is ready.
func TestBreakAtLast(t *testing.T) {
	q := made(t, 5, 100000, 1)
	puts(t, q, api.OK, several(1, 2, 3)...)
	for n := 1; n <= 3; n++ {
		first(t, q, n)
		q.Break()
		silent(t, q, false)
		answers(t, q, false, n)
	}
	gone(t, q, 1, 2)
	silent(t, q, true)
	gone(t, q, 3)
	stands(t, q, 3)
}

// TestGone: in their order, each once, whenever it is asked.
func TestGone(t *testing.T) {
	q := made(t, 10, 1, 1)
	puts(t, q, api.OK, several(5, 3, 9, 1, 7, 2)...)
	giveUp := func(n int) {
		t.Helper()
		first(t, q, n)
		q.Tick()
	}
	giveUp(5)
	gone(t, q) // it is not looked at yet
	giveUp(3)
	giveUp(9)
	gone(t, q, 5, 3)
	gone(t, q)
	first(t, q, 1)
	gone(t, q, 9)
	answers(t, q, true, 1)
	giveUp(7)
	gone(t, q)
	giveUp(2)
	puts(t, q, api.OK, several(5, 3)...)
	giveUp(5)
	giveUp(3)
	silent(t, q, true)
	gone(t, q, 7, 2, 5, 3)
	gone(t, q)
	stands(t, q, 7)
}

// TestDead: of those that were given up no more are counted than may be, and all are told.
func TestDead(t *testing.T) {
	q := made(t, 1, 1, 1)
	var want []int
	for n := range 25000 {
		puts(t, q, api.OK, numbered(n))
		first(t, q, n)
		q.Break()
		silent(t, q, true)
		want = append(want, n)
		if q.Dead() != min(n+1, 10000) {
			t.Fatalf("S5: behind %d that were given up Dead is %d", n+1, q.Dead())
		}
	}
	gone(t, q, want...)
	puts(t, q, api.OK, numbered(1))
	first(t, q, 1)
	answers(t, q, true, 1)
	stands(t, q, 10000)
	gone(t, q)
}

// TestOrder: those that wait stay in the order in which they were put, whatever comes and goes.
func TestOrder(t *testing.T) {
	q := made(t, 100, 1, 1)
	var want []int
	for n := range 1000 {
		for i := range 1 + n%3 {
			number := (n*37 + i*11) % 101
			if q.Put(numbered(number)) == api.OK {
				want = append(want, number)
			}
		}
		first(t, q, want[0])
		if n%2 == 0 {
			answers(t, q, true, want[0])
			want = want[1:]
		} else if q.Tick(); len(want) > 1 {
			first(t, q, want[1])
			answers(t, q, true, want[1])
			gone(t, q, want[0])
			want = want[2:]
		} else {
			silent(t, q, true)
			gone(t, q, want[0])
			want = want[1:]
		}
		stands(t, q, q.Dead(), several(want...)...)
	}
}

// TestLongQueue: the longest one, to its end.
func TestLongQueue(t *testing.T) {
	q := made(t, 10000, 1, 2)
	var numbers []int
	for i := range 10000 {
		n := i * 7919 % 10007
		puts(t, q, api.OK, numbered(n))
		numbers = append(numbers, n)
	}
	stands(t, q, 0, several(numbers...)...)
	var lost []int
	for i, n := range numbers {
		first(t, q, n)
		if i%3 == 0 {
			q.Tick()
			again(t, q, n)
			q.Tick()
			lost = append(lost, n)
		} else {
			answers(t, q, true, n)
		}
	}
	silent(t, q, true)
	gone(t, q, lost...)
	stands(t, q, len(lost))
}

// TestManyTicks: long behind its beginning a queue does the same.
func TestManyTicks(t *testing.T) {
	q := made(t, 2, 3, 2)
	ticks(q, 1_000_000)
	puts(t, q, api.OK, numbered(1))
	first(t, q, 1)
	ticks(q, 1_000_000)
	again(t, q, 1)
	ticks(q, 2)
	silent(t, q, true)
	q.Break()
	ticks(q, 1_000_000)
	silent(t, q, true)
	stands(t, q, 1)
}

// TestAnyAdvice: nothing but the Number is looked at, and all of it is told as it was.
func TestAnyAdvice(t *testing.T) {
	for i, m := range oddMessages() {
		for k, other := range oddMessages() {
			for _, number := range []int{0, math.MinInt, math.MaxInt} {
				a := api.Advice{Link: edges[(i+k)%len(edges)], Number: number, Message: m, Repeat: other}
				q := made(t, 1, 1, 2)
				puts(t, q, api.OK, a)
				stands(t, q, 0, a)
				sends(t, q, m)
				stands(t, q, 0, a)
				q.Tick()
				sends(t, q, other)
				stands(t, q, 0, a)
				answers(t, q, true, number)
				stands(t, q, 0)
			}
		}
	}
}

// TestNumberIsNotReadFromMessages: an advice is known by its Number alone.
func TestNumberIsNotReadFromMessages(t *testing.T) {
	q := made(t, 5, 1, 1)
	var all []api.Advice
	for n := range 3 {
		a := api.Advice{Number: n, Message: of("0220", field(11, "000007")), Repeat: of("0221", field(11, fmt.Sprintf("%06d", 2-n)))}
		puts(t, q, api.OK, a)
		all = append(all, a)
	}
	stands(t, q, 0, all...)
	sends(t, q, all[0].Message)
	answers(t, q, false, 7, 2)
	answers(t, q, true, 0)
	stands(t, q, 0, slices.Clone(all[1:])...)
}
