package tlv

import (
	"slices"
	"strings"

	"turnstile/api"
)

// walk tells whether it went over all: not, if yield wanted no more.
func walk(l []api.Node, deep int, yield func(int, api.Node) bool) bool {
	for _, n := range l {
		if !yield(deep, n) || !walk(n.Kids, deep+1, yield) {
			return false
		}
	}
	return true
}

// seek is the place in l to which a path leads; nil: there is none.
func seek(l []api.Node, path []int) *api.Node {
	var found *api.Node
	for _, tag := range path {
		i := slices.IndexFunc(l, func(n api.Node) bool { return n.Tag == tag })
		if i < 0 {
			return nil
		}
		found = &l[i]
		l = found.Kids
	}
	return found
}

// cloned is a node as memory of its own, with all within it: lists that stood in two places become two.
func cloned(n api.Node) api.Node {
	return api.Node{Tag: n.Tag, Value: strings.Clone(n.Value), Kids: clonedList(n.Kids)}
}

func clonedList(l []api.Node) []api.Node {
	var c []api.Node
	for _, n := range l {
		c = append(c, cloned(n))
	}
	return c
}
