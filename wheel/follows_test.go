package wheel_test

import (
	"fmt"
	"math/rand"
	"slices"
	"testing"

	"turnstile/api"
)

// TestAllShort: every list of five things that can be done, held against the second reading at each step.
func TestAllShort(t *testing.T) {
	do := []func(b *both){
		func(b *both) { b.tick() },
		func(b *both) { b.add(1, "a") },
		func(b *both) { b.add(2, "b") },
		func(b *both) { b.add(3, "c") },
		func(b *both) { b.add(5, "d") },
		func(b *both) { b.add(0, "e") },
		func(b *both) { b.cancel(1) },
		func(b *both) { b.cancel(2) },
	}
	total := 1
	for range 5 {
		total *= len(do)
	}
	for _, slots := range []int{1, 2, 3, 7} {
		for n := range total {
			b := newBoth(t, slots)
			for k := n; k > 0; k /= len(do) {
				do[k%len(do)](b)
				b.stands()
			}
			for range 6 {
				b.tick()
				b.stands()
			}
		}
	}
}

// TestAnything: long lists, held against the second reading.
func TestAnything(t *testing.T) {
	r := rand.New(rand.NewSource(1701))
	came, cancelled, refused := 0, 0, 0
	for range 300 {
		b := newBoth(t, oneOf(r, oneOf(r, sizes...), 1+r.Intn(20), 1+r.Intn(4096)))
		for i := range 500 {
			b.anything(r)
			if i%50 == 49 {
				b.stands()
			}
		}
		for range 250 {
			b.tick()
		}
		b.stands()
		came, cancelled, refused = came+b.came, cancelled+b.cancelled, refused+b.refused
	}
	if came < 20000 || cancelled < 5000 || refused < 1000 {
		t.Errorf("the test saw only %d that came, %d that were cancelled, and %d that were refused", came, cancelled, refused)
	}
}

// TestSlotsAreNotSeen: wheels of any numbers of slots do the same.
func TestSlotsAreNotSeen(t *testing.T) {
	var first []string
	for slots := 1; slots <= 4096; slots += 1 + slots/3 {
		r := rand.New(rand.NewSource(1702))
		w := made[int](t, slots)
		var l []string
		for i := range 4000 {
			n, e := w.Add(anyTicks(r), i)
			v, f := w.Cancel(1 + r.Intn(4000))
			k, g := w.Left(1 + r.Intn(4000))
			l = append(l, fmt.Sprint(n, e, v, f, k, g, w.Tick(), w.Len(), w.Now()))
		}
		l = append(l, told(w)...)
		if first == nil {
			first = l
		}
		if !slices.Equal(l, first) {
			t.Fatalf("W: a wheel of %d slots does another thing than one of 1 slot", slots)
		}
	}
}

// TestOnceAtItsTick: each thing comes once, at its tick, or was cancelled ahead of that; Left is its tick less Now.
func TestOnceAtItsTick(t *testing.T) {
	r := rand.New(rand.NewSource(1703))
	came, cancelled := 0, 0
	for _, slots := range []int{1, 2, 5, 64, 1000, 4096} {
		w := made[int](t, slots)
		at := []int{0}  // of each timer, its tick
		end := []int{0} // and the tick at which it ended; 0: it waits
		for w.Now() < 3000 || w.Len() > 0 {
			if w.Now() < 3000 {
				n := 1 + r.Intn(oneOf(r, 5, 100, 2000))
				timer, _ := w.Add(n, len(at))
				if timer != len(at) {
					t.Fatalf("W2: the timer %d; must be %d", timer, len(at))
				}
				at, end = append(at, w.Now()+n), append(end, 0)
			}
			one := 1 + r.Intn(len(at)-1)
			if n, e := w.Left(one); end[one] == 0 && (n != at[one]-w.Now() || n < 1 || e != api.OK) || end[one] > 0 && e != api.ErrTimer {
				t.Fatalf("W6: Left(%d), whose tick is %d, is %d, %d at %d", one, at[one], n, e, w.Now())
			}
			if r.Intn(6) == 0 {
				v, e := w.Cancel(one)
				if end[one] == 0 && v == one && e == api.OK {
					cancelled++
					end[one] = -1
				} else if end[one] == 0 || v != 0 || e != api.ErrTimer {
					t.Fatalf("W6: Cancel(%d), which ended at %d, is %d, %d", one, end[one], v, e)
				}
			}
			if r.Intn(2) == 0 || w.Now() >= 3000 {
				for _, timer := range w.Tick() {
					if end[timer] != 0 || at[timer] != w.Now() {
						t.Fatalf("W6: the timer %d, whose tick is %d, comes at %d; it ended at %d", timer, at[timer], w.Now(), end[timer])
					}
					end[timer] = w.Now()
					came++
				}
			}
		}
		if slices.Contains(end[1:], 0) {
			t.Errorf("W6: the timer %d never came", 1+slices.Index(end[1:], 0))
		}
	}
	if came < 10000 || cancelled < 1000 {
		t.Errorf("the test saw only %d that came, and %d that were cancelled", came, cancelled)
	}
}

// TestAllTellsWhatComes: gone over, All tells just what the ticks then bring, and when.
func TestAllTellsWhatComes(t *testing.T) {
	r := rand.New(rand.NewSource(1704))
	for range 300 {
		w := made[int](t, oneOf(r, sizes...))
		for timer := 1; timer <= 60; timer++ {
			w.Add(1+r.Intn(oneOf(r, 5, 30, 400)), timer)
			if r.Intn(4) == 0 {
				w.Cancel(1 + r.Intn(timer))
			}
			if r.Intn(4) == 0 {
				w.Tick()
			}
		}
		var told, came [][2]int
		for timer, v := range w.All() {
			n, _ := w.Left(timer)
			told = append(told, [2]int{v, w.Now() + n})
		}
		for w.Len() > 0 {
			for _, v := range w.Tick() {
				came = append(came, [2]int{v, w.Now()})
			}
		}
		if !slices.Equal(told, came) {
			t.Fatalf("W6: All and Left tell %d; then come %d", told, came)
		}
	}
}
