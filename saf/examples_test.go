package saf_test

import (
	"testing"

	"turnstile/api"
	"turnstile/saf"
)

func TestExampleOne(t *testing.T) {
	q := made(t, 2, 3, 2)
	puts(t, q, api.OK, several(7, 8)...)
	puts(t, q, api.ErrQueue, numbered(9))
	silent(t, q, false)
	first(t, q, 7)
	silent(t, q, true)
	ticks(q, 3)
	again(t, q, 7)
	ticks(q, 3)
	first(t, q, 8)
	gone(t, q, 7)
	gone(t, q)
	stands(t, q, 1, numbered(8))
	answers(t, q, false, 7)
	answers(t, q, true, 8)
	stands(t, q, 1)
}

func TestExampleTwo(t *testing.T) {
	q := made(t, 5, 3, 2)
	puts(t, q, api.OK, numbered(7))
	first(t, q, 7)
	q.Break()
	answers(t, q, false, 7)
	again(t, q, 7)
	q.Break()
	silent(t, q, true)
	gone(t, q, 7)
	stands(t, q, 1)
}

func TestExampleThree(t *testing.T) {
	q := made(t, 5, 3, 1)
	puts(t, q, api.OK, numbered(7))
	puts(t, q, api.ErrTwice, numbered(7))
	for _, c := range [][3]int{{0, 1, 1}, {1, 0, 1}, {1, 1, 101}} {
		if q, e := saf.New(c[0], c[1], c[2]); q != nil || e != api.ErrArg {
			t.Errorf("S1: New(%v) is %d, and a queue: %v; must be ErrArg, nil", c, e, q != nil)
		}
	}
}
