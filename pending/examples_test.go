package pending_test

import (
	"testing"

	"turnstile/api"
)

func TestExampleOne(t *testing.T) {
	x, a, b, c := made(t, 2, 3, 2), numbered(1), numbered(2), numbered(3)
	adds(t, x, api.OK, a)
	adds(t, x, api.ErrTwice, a)
	adds(t, x, api.OK, b)
	adds(t, x, api.ErrFull, c)
	has(t, x, true, a)
	answers(t, x, api.OK, b)
	none(t, x, 1, 2)
	none(t, x, 0, 1)
	stands(t, x, 0, a)
}

func TestExampleTwo(t *testing.T) {
	x, a := made(t, 2, 3, 2), numbered(1)
	adds(t, x, api.OK, a)
	quiet(t, x, 2)
	ticks(t, x, several(1), nil)
	stands(t, x, 1)
	has(t, x, false, a)
	adds(t, x, api.ErrTwice, a)
	quiet(t, x, 1)
	ticks(t, x, nil, several(1))
	adds(t, x, api.OK, a)
	stands(t, x, 0, a)
}

func TestExampleThree(t *testing.T) {
	x, a := made(t, 2, 3, 2), numbered(1)
	adds(t, x, api.OK, a)
	quiet(t, x, 2)
	ticks(t, x, several(1), nil)
	answers(t, x, api.ErrLate, a)
	stands(t, x, 0)
	quiet(t, x, 2)
}

func TestExampleFour(t *testing.T) {
	x := made(t, 1, 1, 9)
	adds(t, x, api.OK, numbered(1))
	ticks(t, x, several(1), nil)
	adds(t, x, api.OK, numbered(2))
	ticks(t, x, several(2), several(1))
	stands(t, x, 1)
}
