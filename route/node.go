package route

import (
	"iter"
	"strconv"
)

// node is what is laid under a prefix, and under those that begin with it. A trie has none without anything.
type node[T any] struct {
	laid *T           // nil: nothing
	kids [10]*node[T] // by the digit that follows
}

// with is a node with another thing laid under the digits that follow it, or, of nil, with nothing laid there; nil: there is nothing in it.
func (n *node[T]) with(digits string, thing *T) *node[T] {
	var changed node[T]
	if n != nil {
		changed = *n
	}
	if digits == "" {
		changed.laid = thing
	} else {
		kid := &changed.kids[digits[0]-'0']
		*kid = (*kid).with(digits[1:], thing)
	}
	if changed == (node[T]{}) {
		return nil
	}
	return &changed
}

// longest is what is laid under the longest prefix with which digits begin, and how long that is; nil: there is none.
func (n *node[T]) longest(digits string) (*T, int) {
	var found *T
	long := 0
	for at := 0; n != nil; at++ {
		if n.laid != nil {
			found, long = n.laid, at
		}
		if at == len(digits) || !isDigit(digits[at]) {
			break
		}
		n = n.kids[digits[at]-'0']
	}
	return found, long
}

// nodes goes over a node and all that hang on it, each with the digits that lead there: one ahead of those behind it.
func (n *node[T]) nodes() iter.Seq2[string, *node[T]] {
	return func(yield func(string, *node[T]) bool) {
		if n != nil {
			n.walk("", yield)
		}
	}
}

// walk tells whether it went over all: not, if yield wanted no more.
func (n *node[T]) walk(prefix string, yield func(string, *node[T]) bool) bool {
	if !yield(prefix, n) {
		return false
	}
	for digit, kid := range n.kids {
		if kid != nil && !kid.walk(prefix+strconv.Itoa(digit), yield) {
			return false
		}
	}
	return true
}
