package pending_test

import (
	"fmt"
	"math"
	"slices"
	"testing"

	"turnstile/api"
	"turnstile/pending"
)

func TestNew(t *testing.T) {
	for _, n := range edges {
		holdsNew(t, n, 1, 1)
		holdsNew(t, 1, n, 1)
		holdsNew(t, 1, 1, n)
		holdsNew(t, 10000, n, 100000)
		holdsNew(t, n, 100000, n)
		holdsNew(t, n, n, 100000)
		holdsNew(t, n, n, n)
	}
	for n := -10; n < 10010; n++ {
		holdsNew(t, n, 2, 3)
	}
}

func holdsNew(t *testing.T, most, timeout, late int) {
	t.Helper()
	x, e := pending.New(most, timeout, late)
	if most < 1 || most > 10000 || timeout < 1 || timeout > 100000 || late < 1 || late > 100000 {
		if x != nil || e != api.ErrArg {
			t.Errorf("19.1: New(%d, %d, %d) is %d, and a table: %v; must be ErrArg, nil", most, timeout, late, e, x != nil)
		}
		return
	}
	if x == nil || e != api.OK {
		t.Fatalf("19.1: New(%d, %d, %d) is %d, and a table: %v", most, timeout, late, e, x != nil)
	}
	stands(t, x, 0)
	has(t, x, false, numbered(1), api.Pending{})
	none(t, x, 0, 0)
	none(t, x, 1, 1)
	quiet(t, x, 2)
	stands(t, x, 0)
}

// TestTwiceByKey: each part of a Key counts, and nothing beside it.
func TestTwiceByKey(t *testing.T) {
	x, a := made(t, 100, 3, 2), numbered(1)
	adds(t, x, api.OK, a)
	b := request("another", "1", 7, 8)
	b.From, b.Sent = 9, of("0800")
	adds(t, x, api.ErrTwice, b)
	others := []api.Key{
		{Link: 4, Class: 2, Number: "1", Stamp: "1115120000", Terminal: "T"},
		{Link: 3, Class: 1, Number: "1", Stamp: "1115120000", Terminal: "T"},
		{Link: 3, Class: 2, Number: "01", Stamp: "1115120000", Terminal: "T"},
		{Link: 3, Class: 2, Number: "1", Stamp: "1115120001", Terminal: "T"},
		{Link: 3, Class: 2, Number: "1", Stamp: "1115120000", Terminal: "t"},
		{Link: 3, Class: 2, Number: "1", Stamp: "1115120000"},
		{Link: 3, Class: 2, Number: "11", Stamp: "115120000", Terminal: "T"},
		{Link: 3, Class: 2, Number: "1", Stamp: "1115120000T"},
		{Link: 3<<32 + 3, Class: 2, Number: "1", Stamp: "1115120000", Terminal: "T"},
		{Link: math.MinInt, Class: math.MaxInt, Number: "\x00", Stamp: "\xFF", Terminal: "٣"},
		{},
	}
	want := []api.Pending{a}
	for i, k := range others {
		p := numbered(10 + i)
		p.Key = k
		has(t, x, false, p)
		adds(t, x, api.OK, p)
		q := numbered(100)
		q.Key = k
		adds(t, x, api.ErrTwice, q)
		want = append(want, p)
		stands(t, x, 0, want...)
	}
	answers(t, x, api.OK, want...)
	has(t, x, false, want...)
	stands(t, x, 0)
}

// TestTwiceByName: To and Number count together, whatever they are, and nothing beside them.
func TestTwiceByName(t *testing.T) {
	x := made(t, 10000, 3, 2)
	var want []api.Pending
	for i, to := range edges {
		for k, number := range edges {
			p := request("a", fmt.Sprint(i, " ", k), to, number)
			adds(t, x, api.OK, p)
			adds(t, x, api.ErrTwice, request("b", "another", to, number))
			want = append(want, p)
		}
	}
	stands(t, x, 0, want...)
	slices.Reverse(want)
	for i, p := range want {
		answers(t, x, api.OK, p)
		none(t, x, p.To, p.Number)
		if x.Len() != len(want)-i-1 {
			t.Fatalf("19.5: Len %d; must be %d", x.Len(), len(want)-i-1)
		}
	}
}

// TestTwiceWhenRemembered: a Number is in use as long as its request is remembered, a Key is not.
func TestTwiceWhenRemembered(t *testing.T) {
	x, a := made(t, 3, 2, 3), numbered(1)
	adds(t, x, api.OK, a)
	quiet(t, x, 1)
	ticks(t, x, several(1), nil)
	for range 2 {
		adds(t, x, api.ErrTwice, a, request("b", "2", 1, 1))
		stands(t, x, 1)
		quiet(t, x, 1)
	}
	c := request("c", "1", 1, 2)
	adds(t, x, api.OK, c)
	adds(t, x, api.ErrTwice, a, request("d", "1", 1, 3), request("e", "2", 1, 1))
	ticks(t, x, nil, several(1))
	stands(t, x, 0, c)
	adds(t, x, api.ErrTwice, a)
	b := request("b", "2", 1, 1)
	adds(t, x, api.OK, b)
	stands(t, x, 0, c, b)
}

// TestKeyOfAnother: a request that is remembered has the Key of one that waits; however it ends, that one waits on.
func TestKeyOfAnother(t *testing.T) {
	one, two, three := request("one", "k", 1, 1), request("two", "k", 1, 2), request("three", "k", 1, 3)
	late := func() *pending.Table {
		x := made(t, 1, 1, 2)
		adds(t, x, api.OK, one)
		has(t, x, true, one)
		ticks(t, x, []api.Pending{one}, nil)
		has(t, x, false, one)
		adds(t, x, api.OK, two)
		has(t, x, true, two)
		return x
	}
	x := late()
	answers(t, x, api.ErrLate, one)
	stands(t, x, 0, two)
	adds(t, x, api.ErrTwice, three)
	ticks(t, x, []api.Pending{two}, nil)
	has(t, x, false, two)
	adds(t, x, api.OK, three)
	stands(t, x, 1, three)

	x = late()
	ticks(t, x, []api.Pending{two}, []api.Pending{one})
	stands(t, x, 1)
	has(t, x, false, two)
	adds(t, x, api.OK, three)
	answers(t, x, api.OK, three)
	has(t, x, false, three)
	answers(t, x, api.ErrLate, two)
	stands(t, x, 0)

	x = made(t, 5, 3, 1)
	adds(t, x, api.OK, one)
	quiet(t, x, 2)
	ticks(t, x, []api.Pending{one}, nil)
	adds(t, x, api.OK, two)
	ticks(t, x, nil, []api.Pending{one})
	stands(t, x, 0, two)
	adds(t, x, api.ErrTwice, three)
}

// TestTwiceAheadOfFull: where both apply, ErrTwice is told.
func TestTwiceAheadOfFull(t *testing.T) {
	x := made(t, 2, 2, 3)
	adds(t, x, api.OK, numbered(1))
	quiet(t, x, 1)
	ticks(t, x, several(1), nil)
	adds(t, x, api.OK, numbered(2), numbered(3))
	adds(t, x, api.ErrFull, numbered(4), request("a", "1", 1, 4), request("b", "1", 2, 1))
	adds(t, x, api.ErrTwice, numbered(1), numbered(2), numbered(3))
	adds(t, x, api.ErrTwice, request("c", "9", 1, 1), request("d", "9", 1, 2), request("e", "3", 9, 9))
	stands(t, x, 1, several(2, 3)...)
}

// TestFull: as many wait as may, whatever is remembered, and one more as soon as one waits no more.
func TestFull(t *testing.T) {
	for _, most := range []int{1, 2, 3, 17, 255, 256, 257, 10000} {
		x := made(t, most, 1, 2)
		for round := range 4 {
			var want []api.Pending
			for i := range most {
				want = append(want, numbered(round*most+i))
			}
			adds(t, x, api.OK, want...)
			adds(t, x, api.ErrFull, numbered(-1))
			first := want[0]
			answers(t, x, api.OK, first)
			want = append(want[1:], first)
			adds(t, x, api.OK, first)
			adds(t, x, api.ErrFull, numbered(-1))
			none(t, x, 1, -1)
			has(t, x, false, numbered(-1))
			if x.Len() != most || x.Late() != min(round, 1)*most {
				t.Fatalf("19.5: of at most %d: Len %d, Late %d", most, x.Len(), x.Late())
			}
			late, _ := x.Tick()
			if !slices.EqualFunc(late, want, same) {
				t.Fatalf("19.4: of %d that are late %d come, or others, or in another order", most, len(late))
			}
		}
	}
}

// TestAnswerAtLast: a tick ahead of its time it is answered; at it, late; and a tick ahead of being forgotten still.
func TestAnswerAtLast(t *testing.T) {
	for timeout := 1; timeout < 8; timeout++ {
		for late := 1; late < 8; late++ {
			for ahead := range timeout + late + 3 {
				x := made(t, 1, timeout, late)
				quiet(t, x, ahead%3)
				adds(t, x, api.OK, numbered(1))
				for n := 1; n <= ahead; n++ {
					switch n {
					case timeout:
						ticks(t, x, several(1), nil)
					case timeout + late:
						ticks(t, x, nil, several(1))
					default:
						quiet(t, x, 1)
					}
				}
				switch {
				case ahead < timeout:
					stands(t, x, 0, numbered(1))
					answers(t, x, api.OK, numbered(1))
				case ahead < timeout+late:
					stands(t, x, 1)
					answers(t, x, api.ErrLate, numbered(1))
				}
				none(t, x, 1, 1)
				stands(t, x, 0)
				quiet(t, x, timeout+late+1)
				adds(t, x, api.OK, numbered(1))
			}
		}
	}
}

// TestLongTimes: time-outs at the edge, and about what a round of timers may be.
func TestLongTimes(t *testing.T) {
	for _, timeout := range []int{1, 255, 256, 257, 4095, 4096, 4097, 99999, 100000} {
		for _, late := range []int{1, 256, 4096, 100000} {
			x := made(t, 2, timeout, late)
			adds(t, x, api.OK, numbered(1), numbered(2))
			quiet(t, x, timeout-1)
			answers(t, x, api.OK, numbered(2))
			ticks(t, x, several(1), nil)
			quiet(t, x, late-1)
			stands(t, x, 1)
			ticks(t, x, nil, several(1))
			stands(t, x, 0)
		}
	}
}

// TestManyTicks: long behind its beginning a table does the same.
func TestManyTicks(t *testing.T) {
	x := made(t, 2, 3, 2)
	quiet(t, x, 1_000_000)
	for n := range 1000 {
		adds(t, x, api.OK, numbered(n))
		quiet(t, x, 2)
		ticks(t, x, several(n), nil)
		quiet(t, x, 1)
		ticks(t, x, nil, several(n))
	}
	stands(t, x, 0)
}

// TestLateInOrder: in the order of Add, of one tick and of several, without those that were answered.
func TestLateInOrder(t *testing.T) {
	x := made(t, 20, 3, 2)
	adds(t, x, api.OK, several(5, 3, 9, 1)...)
	quiet(t, x, 1)
	adds(t, x, api.OK, several(4, 2, 8)...)
	answers(t, x, api.OK, numbered(3))
	quiet(t, x, 1)
	adds(t, x, api.OK, several(3, 0)...)
	stands(t, x, 0, several(5, 9, 1, 4, 2, 8, 3, 0)...)
	answers(t, x, api.OK, numbered(8))
	stands(t, x, 0, several(5, 9, 1, 4, 2, 3, 0)...)
	ticks(t, x, several(5, 9, 1), nil)
	stands(t, x, 3, several(4, 2, 3, 0)...)
	adds(t, x, api.OK, numbered(8))
	ticks(t, x, several(4, 2), nil)
	answers(t, x, api.ErrLate, numbered(9))
	ticks(t, x, several(3, 0), several(5, 1))
	adds(t, x, api.ErrTwice, numbered(4))
	ticks(t, x, several(8), several(4, 2))
	stands(t, x, 3)
	ticks(t, x, nil, several(3, 0))
	ticks(t, x, nil, several(8))
	stands(t, x, 0)
}

// TestPushedOut: the one that is remembered longest, of those that are remembered still.
func TestPushedOut(t *testing.T) {
	x := made(t, 3, 1, 50)
	adds(t, x, api.OK, several(7, 5, 6)...)
	ticks(t, x, several(7, 5, 6), nil)
	adds(t, x, api.OK, numbered(1))
	ticks(t, x, several(1), several(7))
	none(t, x, 1, 7)
	adds(t, x, api.OK, numbered(7))
	answers(t, x, api.ErrLate, numbered(5))
	ticks(t, x, several(7), nil)
	adds(t, x, api.OK, several(2, 3)...)
	ticks(t, x, several(2, 3), several(6, 1))
	stands(t, x, 3)
	answers(t, x, api.ErrLate, numbered(2))
	answers(t, x, api.ErrLate, numbered(7))
	adds(t, x, api.OK, several(9, 8, 4)...)
	ticks(t, x, several(9, 8, 4), several(3))
	adds(t, x, api.OK, several(1, 2, 3)...)
	ticks(t, x, several(1, 2, 3), several(9, 8, 4))
	quiet(t, x, 49)
	ticks(t, x, nil, several(1, 2, 3))
	stands(t, x, 0)
}

// TestOverAndPushedOut: those whose ticks are over are gone first, and make room.
func TestOverAndPushedOut(t *testing.T) {
	x := made(t, 3, 1, 2)
	adds(t, x, api.OK, numbered(1))
	ticks(t, x, several(1), nil)
	adds(t, x, api.OK, several(2, 3)...)
	ticks(t, x, several(2, 3), nil)
	adds(t, x, api.OK, numbered(4))
	ticks(t, x, several(4), several(1))
	adds(t, x, api.OK, several(5, 6, 7)...)
	ticks(t, x, several(5, 6, 7), several(2, 3, 4))
	adds(t, x, api.OK, numbered(8))
	ticks(t, x, several(8), several(5))
	ticks(t, x, nil, several(6, 7))
	ticks(t, x, nil, several(8))

	x = made(t, 2, 1, 2)
	adds(t, x, api.OK, numbered(1))
	ticks(t, x, several(1), nil)
	adds(t, x, api.OK, numbered(2))
	ticks(t, x, several(2), nil)
	adds(t, x, api.OK, several(3, 4)...)
	ticks(t, x, several(3, 4), several(1, 2))
	stands(t, x, 2)
}

// TestPushedOutNumber: the number of one that was pushed out may be had again, and its own time does not touch the new one.
func TestPushedOutNumber(t *testing.T) {
	x := made(t, 1, 1, 3)
	adds(t, x, api.OK, numbered(1))
	ticks(t, x, several(1), nil)
	adds(t, x, api.OK, numbered(2))
	ticks(t, x, several(2), several(1))
	again := request("again", "1", 1, 1)
	adds(t, x, api.OK, again)
	ticks(t, x, []api.Pending{again}, several(2))
	quiet(t, x, 2)
	stands(t, x, 1)
	ticks(t, x, nil, []api.Pending{again})
}

// TestAnyRequest: nothing but Key, To and Number is looked at, and all of it is told as it was.
func TestAnyRequest(t *testing.T) {
	for _, m := range oddMessages() {
		for _, p := range []api.Pending{{}, {Request: m, Sent: m}, {Key: api.Key{Number: "x\x00"}, From: math.MinInt, To: math.MaxInt, Number: math.MinInt, Request: m}, {From: -1, Sent: m}} {
			x := made(t, 1, 1, 1)
			adds(t, x, api.OK, p)
			stands(t, x, 0, p)
			answers(t, x, api.OK, p)
			adds(t, x, api.OK, p)
			ticks(t, x, []api.Pending{p}, nil)
			answers(t, x, api.ErrLate, p)
			adds(t, x, api.OK, p)
			ticks(t, x, []api.Pending{p}, nil)
			ticks(t, x, nil, []api.Pending{p})
			stands(t, x, 0)
		}
	}
}

// TestNoneIsNothing: an answer for nobody changes nothing.
func TestNoneIsNothing(t *testing.T) {
	x := made(t, 3, 2, 3)
	adds(t, x, api.OK, numbered(1))
	quiet(t, x, 1)
	adds(t, x, api.OK, numbered(2))
	ticks(t, x, several(1), nil)
	for _, n := range edges {
		if n != 1 && n != 2 {
			none(t, x, 1, n)
		}
		if n != 1 {
			none(t, x, n, 1)
			none(t, x, n, 2)
		}
	}
	stands(t, x, 1, numbered(2))
	answers(t, x, api.ErrLate, numbered(1))
	answers(t, x, api.OK, numbered(2))
}
