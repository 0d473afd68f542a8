package core

import (
	"slices"

	"turnstile/api"
)

// doing is a request that was done: what must be known to take it back.
type doing struct {
	key      api.Key // without a terminal
	to       *link
	sent     api.Message
	approval approval // if it was approved in the place of others
}

// approval is one of the stand-in book; without a card: none.
type approval struct {
	card      string
	units, at int
}

// meant is what a reversal says of a request: its key without the terminal.
func meant(k api.Key) api.Key {
	k.Terminal = ""
	return k
}

// asked is how many requests wait of which reversals say the same. (Of those that wait pending knows the keys, but not without terminals.)
type asked map[api.Key]int

func (a asked) add(k api.Key) { a[meant(k)]++ }

func (a asked) drop(k api.Key) {
	k = meant(k)
	a[k]--
	if a[k] == 0 {
		delete(a, k)
	}
}

// newest are the last things that were added, at most so many.
type newest[T any] struct {
	most   int
	things []T // older ones ahead
}

func (n *newest[T]) add(v T) {
	if len(n.things) == n.most {
		n.drop(0)
	}
	n.things = append(n.things, v)
}

func (n *newest[T]) drop(i int) { n.things = slices.Delete(n.things, i, i+1) }
