package wheel_test

import (
	"testing"

	"turnstile/api"
	"turnstile/wheel"
)

func TestExample(t *testing.T) {
	for _, n := range []int{0, 4097} {
		if w, e := wheel.New[string](n); w != nil || e != api.ErrArg {
			t.Errorf("W1: New(%d) is %d, and a wheel: %v", n, e, w != nil)
		}
	}
	w := made[string](t, 2)
	adds(t, w, 3, "a", 1, api.OK)
	adds(t, w, 1, "b", 2, api.OK)
	adds(t, w, 3, "c", 3, api.OK)
	adds(t, w, 0, "x", 0, api.ErrArg)
	stands(t, w, 0, "2 b", "1 a", "3 c")
	ticks(t, w, "b")
	left(t, w, 1, 2, api.OK)
	adds(t, w, 2, "d", 4, api.OK)
	ticks(t, w)
	cancels(t, w, 1, "a", api.OK)
	ticks(t, w, "c", "d")
	stands(t, w, 3)
	left(t, w, 3, 0, api.ErrTimer)
}
