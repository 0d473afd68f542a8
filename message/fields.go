package message

import (
	"cmp"
	"slices"
	"strings"

	"turnstile/api"
)

// meant are the numbers of the fields that are looked for.
type meant map[int]struct{}

func meantOf(numbers []int) meant {
	all := meant{}
	for _, n := range numbers {
		all[n] = struct{}{}
	}
	return all
}

func (l meant) has(number int) bool {
	_, ok := l[number]
	return ok
}

// part is a message with the fields that are meant alone, or with the others alone. A number stays meant when it was found: in a message that is not whole it may come again.
func part(m api.Message, numbers []int, keep bool) api.Message {
	all := meantOf(numbers)
	c := api.Message{MTI: strings.Clone(m.MTI)}
	for _, f := range m.Fields {
		if all.has(f.Number) == keep {
			c.Fields = append(c.Fields, copyField(f))
		}
	}
	return c
}

// pick is those of a whole message's fields that are meant: each is looked for until it was found.
func pick(m api.Message, numbers ...int) []api.Field {
	left := meantOf(numbers)
	var l []api.Field
	for _, f := range m.Fields {
		if len(left) == 0 {
			break
		}
		if left.has(f.Number) {
			delete(left, f.Number)
			l = append(l, copyField(f))
		}
	}
	return l
}

// lacks tells whether a message has not all of some fields.
func lacks(m api.Message, numbers ...int) bool {
	left := meantOf(numbers)
	for _, f := range m.Fields {
		delete(left, f.Number)
	}
	return len(left) > 0
}

// put lays a field into a list of its own memory, whose numbers rise: in the place of the one with its number, or where that belongs.
func put(l []api.Field, f api.Field) []api.Field {
	at, found := slices.BinarySearchFunc(l, f.Number, func(g api.Field, number int) int {
		return cmp.Compare(g.Number, number)
	})
	if found {
		l[at] = f
		return l
	}
	return slices.Insert(l, at, f)
}

func valued(number int, value string) api.Field {
	return api.Field{Number: number, Value: strings.Clone(value)}
}

func copyField(f api.Field) api.Field {
	return api.Field{Number: f.Number, Value: strings.Clone(f.Value), Kids: copyNodes(f.Kids)}
}

// copyNodes makes lists that stood in two places two.
func copyNodes(l []api.Node) []api.Node {
	var c []api.Node
	for _, n := range l {
		c = append(c, api.Node{Tag: n.Tag, Value: strings.Clone(n.Value), Kids: copyNodes(n.Kids)})
	}
	return c
}

func sameField(a, b api.Field) bool {
	return a.Number == b.Number && a.Value == b.Value && slices.EqualFunc(a.Kids, b.Kids, sameNode)
}

func sameNode(a, b api.Node) bool {
	return a.Tag == b.Tag && a.Value == b.Value && slices.EqualFunc(a.Kids, b.Kids, sameNode)
}
