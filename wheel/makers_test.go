package wheel_test

import (
	"fmt"
	"math/rand"
	"slices"
	"testing"

	"turnstile/api"
	"turnstile/wheel"
)

// sizes are numbers of slots: none may show.
var sizes = []int{1, 2, 3, 7, 64, 4095, 4096}

func made[T any](t *testing.T, slots int) *wheel.Wheel[T] {
	t.Helper()
	w, e := wheel.New[T](slots)
	if w == nil || e != api.OK {
		t.Fatalf("W1: New(%d) is %d, and a wheel: %v", slots, e, w != nil)
	}
	return w
}

// filled is a wheel with a thing for each of the ticks: "1:" and its ticks for the timer 1, and so on.
func filled(t *testing.T, slots int, ticks ...int) *wheel.Wheel[string] {
	t.Helper()
	w := made[string](t, slots)
	for i, n := range ticks {
		adds(t, w, n, fmt.Sprint(i+1, ":", n), i+1, api.OK)
	}
	return w
}

func adds(t *testing.T, w *wheel.Wheel[string], ticks int, v string, timer int, e api.Errno) {
	t.Helper()
	if n, f := w.Add(ticks, v); n != timer || f != e {
		t.Fatalf("W2: Add(%d, %q) = %d, %d; must be %d, %d", ticks, v, n, f, timer, e)
	}
}

// ticks lets a tick go by, at which just these things come.
func ticks(t *testing.T, w *wheel.Wheel[string], things ...string) {
	t.Helper()
	if l := w.Tick(); !slices.Equal(l, things) {
		t.Fatalf("W3: the tick %d brings %q; must be %q", w.Now(), l, things)
	}
}

func cancels(t *testing.T, w *wheel.Wheel[string], timer int, v string, e api.Errno) {
	t.Helper()
	if x, f := w.Cancel(timer); x != v || f != e {
		t.Fatalf("W4: Cancel(%d) = %q, %d; must be %q, %d", timer, x, f, v, e)
	}
}

func left(t *testing.T, w *wheel.Wheel[string], timer, n int, e api.Errno) {
	t.Helper()
	if k, f := w.Left(timer); k != n || f != e {
		t.Fatalf("W4: Left(%d) = %d, %d; must be %d, %d", timer, k, f, n, e)
	}
}

// stands asks Len, Now and All.
func stands(t *testing.T, w *wheel.Wheel[string], now int, all ...string) {
	t.Helper()
	if l := told(w); w.Now() != now || w.Len() != len(all) || !slices.Equal(l, all) {
		t.Fatalf("W5: Now %d, Len %d, All %q; must be %d, %d, %q", w.Now(), w.Len(), l, now, len(all), all)
	}
}

// told is what All tells, a text for a timer and its thing.
func told[T any](w *wheel.Wheel[T]) []string {
	var l []string
	for timer, v := range w.All() {
		l = append(l, fmt.Sprint(timer, " ", v))
	}
	return l
}

func oneOf[T any](r *rand.Rand, l ...T) T { return l[r.Intn(len(l))] }

// anyTicks is mostly a number of ticks that may be.
func anyTicks(r *rand.Rand) int {
	switch r.Intn(12) {
	case 0:
		return oneOf(r, -1, 0, 100001, 100000, 99999)
	case 1:
		return 1 + r.Intn(5000)
	case 2, 3:
		return 1 + r.Intn(200)
	}
	return 1 + r.Intn(12)
}
