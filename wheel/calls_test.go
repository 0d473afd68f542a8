package wheel_test

import (
	"fmt"
	"math"
	"slices"
	"testing"

	"turnstile/api"
	"turnstile/wheel"
)

func TestNew(t *testing.T) {
	for slots := -10; slots < 5000; slots++ {
		holdsNew(t, slots)
	}
	for _, slots := range []int{math.MinInt, math.MinInt + 1, -4096, 1<<16 + 1, 1<<32 + 1, math.MaxInt} {
		holdsNew(t, slots)
	}
}

func holdsNew(t *testing.T, slots int) {
	t.Helper()
	w, e := wheel.New[string](slots)
	if slots < 1 || slots > 4096 {
		if w != nil || e != api.ErrArg {
			t.Errorf("W1: New(%d) is %d, and a wheel: %v; must be ErrArg, nil", slots, e, w != nil)
		}
		return
	}
	if w == nil || e != api.OK {
		t.Fatalf("W1: New(%d) is %d, and a wheel: %v", slots, e, w != nil)
	}
	stands(t, w, 0)
	for timer := -1; timer < 3; timer++ {
		left(t, w, timer, 0, api.ErrTimer)
		cancels(t, w, timer, "", api.ErrTimer)
	}
	adds(t, w, 1, "a", 1, api.OK)
	ticks(t, w, "a")
	ticks(t, w)
	stands(t, w, 2)
}

// TestAddRefuses: and neither is a number used nor does anything change.
func TestAddRefuses(t *testing.T) {
	for _, slots := range sizes {
		w := filled(t, slots, 3, 1)
		for i, n := range []int{math.MinInt, math.MinInt + 1, -100000, -1, 0, 100001, 100002, 1<<32 + 1, math.MaxInt - 1, math.MaxInt} {
			before := told(w)
			adds(t, w, n, "x", 0, api.ErrArg)
			stands(t, w, i, before...)
			left(t, w, 3+i, 0, api.ErrTimer)
			adds(t, w, 50, "y", 3+i, api.OK)
			w.Tick()
			adds(t, w, n, "x", 0, api.ErrArg)
		}
		if w.Len() != 10 {
			t.Errorf("W2: of %d slots: Len %d; must be 10", slots, w.Len())
		}
	}
}

// TestAddAnyTicks: each number that may be, told back by Left, and come at its tick.
func TestAddAnyTicks(t *testing.T) {
	for _, slots := range []int{64, 4096} {
		w := made[int](t, slots)
		for n := 1; n <= 100000; n++ {
			if timer, e := w.Add(n, n); timer != n || e != api.OK {
				t.Fatalf("W2: Add(%d) = %d, %d", n, timer, e)
			}
			if k, e := w.Left(n); k != n || e != api.OK {
				t.Fatalf("W4: Left of what was laid down for %d ticks is %d, %d", n, k, e)
			}
		}
		for n := 1; n <= 100000; n++ {
			if n%97 == 0 {
				continue
			}
			if v, e := w.Cancel(n); v != n || e != api.OK {
				t.Fatalf("W4: Cancel(%d) = %d, %d", n, v, e)
			}
		}
		for n := 1; n <= 100000; n++ {
			l := w.Tick()
			if comes := n%97 == 0; comes != slices.Equal(l, []int{n}) || !comes && len(l) != 0 {
				t.Fatalf("W3: of %d slots: the tick %d brings %d", slots, n, l)
			}
		}
		if w.Len() != 0 || w.Now() != 100000 {
			t.Errorf("W5: Len %d, Now %d; must be 0, 100000", w.Len(), w.Now())
		}
	}
}

// TestAddLater: ticks count from when a thing is laid down, at any time.
func TestAddLater(t *testing.T) {
	for _, slots := range sizes {
		for ahead := range 20 {
			for n := 1; n < 20; n++ {
				w := made[string](t, slots)
				for range ahead {
					ticks(t, w)
				}
				adds(t, w, n, "a", 1, api.OK)
				for k := n; k > 1; k-- {
					left(t, w, 1, k, api.OK)
					ticks(t, w)
				}
				left(t, w, 1, 1, api.OK)
				ticks(t, w, "a")
				left(t, w, 1, 0, api.ErrTimer)
				stands(t, w, ahead+n)
			}
		}
	}
}

// TestNumbersAreNotUsedAgain: neither of what came nor of what was cancelled.
func TestNumbersAreNotUsedAgain(t *testing.T) {
	w := made[string](t, 3)
	for n := 1; n < 3000; n++ {
		adds(t, w, 1, "a", n, api.OK)
		if n%2 == 0 {
			cancels(t, w, n, "a", api.OK)
		} else {
			ticks(t, w, "a")
		}
		left(t, w, n, 0, api.ErrTimer)
		cancels(t, w, n, "", api.ErrTimer)
	}
}

// TestTickOrder: of one tick in the order in which they were laid down, whenever that was and whatever is laid between.
func TestTickOrder(t *testing.T) {
	for _, slots := range sizes {
		w := filled(t, slots, 5, 6, 5, 5, 7, 5)
		ticks(t, w)
		adds(t, w, 4, "7", 7, api.OK)
		adds(t, w, 5, "8", 8, api.OK)
		ticks(t, w)
		adds(t, w, 3, "9", 9, api.OK)
		adds(t, w, 1, "10", 10, api.OK)
		ticks(t, w, "10")
		adds(t, w, 2, "11", 11, api.OK)
		ticks(t, w)
		adds(t, w, 1, "12", 12, api.OK)
		adds(t, w, 3, "13", 13, api.OK)
		ticks(t, w, "1:5", "3:5", "4:5", "6:5", "7", "9", "11", "12")
		ticks(t, w, "2:6", "8")
		ticks(t, w, "5:7", "13")
		stands(t, w, 7)
	}
}

// TestTickMany: very many things of one tick.
func TestTickMany(t *testing.T) {
	for _, slots := range []int{1, 4096} {
		w := made[int](t, slots)
		var want []int
		for i := range 100000 {
			w.Add(2, i)
			want = append(want, i)
		}
		if l := w.Tick(); len(l) != 0 {
			t.Errorf("W3: the first tick brings %d things", len(l))
		}
		if l := w.Tick(); !slices.Equal(l, want) || w.Len() != 0 {
			t.Errorf("W3: of 100000 things of one tick %d come, Len %d", len(l), w.Len())
		}
		if l := w.Tick(); len(l) != 0 {
			t.Errorf("W3: %d things come once more", len(l))
		}
	}
}

// TestTickRounds: things of one slot, a round and more apart, and those at its edges.
func TestTickRounds(t *testing.T) {
	for _, slots := range []int{1, 2, 3, 7, 64} {
		for ahead := range slots {
			w := made[int](t, slots)
			for range ahead {
				w.Tick()
			}
			var want []int
			for round := range 4 {
				for _, n := range []int{slots*round - 1, slots * round, slots*round + 1} {
					if n > 0 {
						w.Add(n, ahead+n)
						want = append(want, ahead+n)
					}
				}
			}
			slices.Sort(want)
			var came []int
			for range 5 * slots {
				for _, v := range w.Tick() {
					if v != w.Now() {
						t.Errorf("W3: of %d slots: what is of the tick %d comes at %d", slots, v, w.Now())
					}
					came = append(came, v)
				}
			}
			if !slices.Equal(came, want) {
				t.Errorf("W3: of %d slots: at %d come; must be %d", slots, came, want)
			}
		}
	}
}

// TestCancelOne: each of several of one slot, and of one tick: it alone.
func TestCancelOne(t *testing.T) {
	for _, slots := range sizes {
		for timer := 1; timer <= 5; timer++ {
			w := filled(t, slots, 2, 2, 2, 4, 2)
			names := []string{"1:2", "2:2", "3:2", "4:4", "5:2"}
			cancels(t, w, timer, names[timer-1], api.OK)
			cancels(t, w, timer, "", api.ErrTimer)
			left(t, w, timer, 0, api.ErrTimer)
			if w.Len() != 4 {
				t.Errorf("W5: behind Cancel(%d) Len %d; must be 4", timer, w.Len())
			}
			names[timer-1] = ""
			rest := slices.DeleteFunc([]string{names[0], names[1], names[2], names[4]}, func(s string) bool { return s == "" })
			ticks(t, w)
			ticks(t, w, rest...)
			ticks(t, w)
			ticks(t, w, slices.DeleteFunc(names[3:4], func(s string) bool { return s == "" })...)
			stands(t, w, 4)
		}
	}
}

// TestNoSuchTimer: of any number that does not wait, and nothing changes.
func TestNoSuchTimer(t *testing.T) {
	for _, slots := range sizes {
		w := filled(t, slots, 1, 2, 3, 3)
		ticks(t, w, "1:1")
		cancels(t, w, 3, "3:3", api.OK)
		for _, timer := range []int{math.MinInt, -4, -2, -1, 0, 1, 3, 5, 6, 64 + 2, 4096 + 2, 1<<32 + 2, 100000, math.MaxInt} {
			left(t, w, timer, 0, api.ErrTimer)
			cancels(t, w, timer, "", api.ErrTimer)
			stands(t, w, 1, "2 2:2", "4 4:3")
		}
		left(t, w, 2, 1, api.OK)
		left(t, w, 4, 2, api.OK)
		adds(t, w, 1, "b", 5, api.OK)
		ticks(t, w, "2:2", "b")
		ticks(t, w, "4:3")
	}
}

// TestCancelAtLast: a tick ahead of its own it can be cancelled, at its tick no more.
func TestCancelAtLast(t *testing.T) {
	for _, slots := range sizes {
		w := filled(t, slots, 3, 3)
		ticks(t, w)
		ticks(t, w)
		left(t, w, 1, 1, api.OK)
		cancels(t, w, 1, "1:3", api.OK)
		ticks(t, w, "2:3")
		cancels(t, w, 2, "", api.ErrTimer)
		stands(t, w, 3)
	}
}

func TestAllInOrder(t *testing.T) {
	for _, slots := range sizes {
		w := filled(t, slots, 9, 2, 100000, 2, 5, 9, 1)
		stands(t, w, 0, "7 7:1", "2 2:2", "4 4:2", "5 5:5", "1 1:9", "6 6:9", "3 3:100000")
		ticks(t, w, "7:1")
		adds(t, w, 1, "a", 8, api.OK)
		adds(t, w, 8, "b", 9, api.OK)
		adds(t, w, 99999, "c", 10, api.OK)
		adds(t, w, 100000, "d", 11, api.OK)
		stands(t, w, 1, "2 2:2", "4 4:2", "8 a", "5 5:5", "1 1:9", "6 6:9", "9 b", "3 3:100000", "10 c", "11 d")
		cancels(t, w, 1, "1:9", api.OK)
		cancels(t, w, 4, "4:2", api.OK)
		stands(t, w, 1, "2 2:2", "8 a", "5 5:5", "6 6:9", "9 b", "3 3:100000", "10 c", "11 d")
		ticks(t, w, "2:2", "a")
		stands(t, w, 2, "5 5:5", "6 6:9", "9 b", "3 3:100000", "10 c", "11 d")
	}
}

// TestNowFar: many ticks without anything, and then something.
func TestNowFar(t *testing.T) {
	w := made[string](t, 5)
	for n := range 1_000_000 {
		if w.Now() != n {
			t.Fatalf("W5: behind %d ticks Now() = %d", n, w.Now())
		}
		ticks(t, w)
	}
	adds(t, w, 2, "a", 1, api.OK)
	ticks(t, w)
	ticks(t, w, "a")
	stands(t, w, 1_000_002)
}

// TestSameThing: one that is laid down several times comes as often.
func TestSameThing(t *testing.T) {
	w := made[string](t, 2)
	for i, n := range []int{1, 3, 1, 5, 3, 1} {
		adds(t, w, n, "a", i+1, api.OK)
	}
	stands(t, w, 0, "1 a", "3 a", "6 a", "2 a", "5 a", "4 a")
	cancels(t, w, 3, "a", api.OK)
	ticks(t, w, "a", "a")
	ticks(t, w)
	ticks(t, w, "a", "a")
	ticks(t, w)
	ticks(t, w, "a")
}

// TestThingsOfAnyKind: they are handed on as they are.
func TestThingsOfAnyKind(t *testing.T) {
	handsOn(t, 1, 0, -1)
	handsOn(t, "", "a", "a")
	handsOn(t, struct{}{}, struct{}{})
	handsOn(t, [3]string{"a", "", "c"}, [3]string{})
	handsOn(t, 1.5, math.Inf(1))
	handsOn[any](t, nil, 1, "a", fmt.Errorf("x"))
	handsOn(t, new(int), nil, new(int))
	handsOn(t, make(chan int), nil)
	handsOn[error](t, nil, fmt.Errorf("y"))
	handsOn(t, api.Link{Name: "a"}, api.Link{})
}

func handsOn[T comparable](t *testing.T, things ...T) {
	t.Helper()
	w, none := made[T](t, 2), *new(T)
	for i, v := range things {
		w.Add(3, v)
		w.Add(2, v)
		if u, e := w.Cancel(2*i + 2); u != v || e != api.OK {
			t.Errorf("W4: Cancel of %v = %v, %d", v, u, e)
		}
		if u, e := w.Cancel(2*i + 2); u != none || e != api.ErrTimer {
			t.Errorf("W4: Cancel again of %v = %v, %d", v, u, e)
		}
	}
	var all []T
	for _, v := range w.All() {
		all = append(all, v)
	}
	w.Tick()
	if l := w.Tick(); len(l) != 0 {
		t.Errorf("W3: what was cancelled comes: %v", l)
	}
	if l := w.Tick(); !slices.Equal(l, things) || !slices.Equal(all, things) {
		t.Errorf("W3: %v come, All tells %v; must be %v", l, all, things)
	}
}
