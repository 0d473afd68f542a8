package message_test

import (
	"math"
	"math/rand"
	"slices"
	"strings"

	"turnstile/api"
)

// Messages to ask with: those of the chapter, whole ones, and ones that are bent here and there.

func field(n int, v string) api.Field { return api.Field{Number: n, Value: v} }

func kids(n int, l ...api.Node) api.Field { return api.Field{Number: n, Kids: l} }

func leaf(tag int, v string) api.Node { return api.Node{Tag: tag, Value: v} }

func inner(tag int, l ...api.Node) api.Node { return api.Node{Tag: tag, Kids: l} }

func of(mti string, l ...api.Field) api.Message { return api.Message{MTI: mti, Fields: l} }

var edges = []int{math.MinInt, -129, -2, -1, 0, 1, 2, 3, 63, 64, 65, 66, 127, 128, 129, 130, 256 + 2, math.MaxInt}

// nested is nodes so deep, the last with a value.
func nested(deep int) []api.Node {
	l := []api.Node{leaf(1, "x")}
	for range deep - 1 {
		l = []api.Node{inner(2, l...)}
	}
	return l
}

func leaves(n int) []api.Node { return slices.Repeat([]api.Node{leaf(7, "v")}, n) }

// all is a message with all fields that there are.
func all(mti string) api.Message {
	m := of(mti)
	for n := 2; n <= 128; n++ {
		if n != 65 {
			m.Fields = append(m.Fields, field(n, "1"))
		}
	}
	return m
}

func oneOf[T any](r *rand.Rand, l ...T) T { return l[r.Intn(len(l))] }

// someText is some bytes, such as stand at edges before all.
func someText(r *rand.Rand) string {
	b := make([]byte, r.Intn(5))
	for i := range b {
		b[i] = oneOf(r, '0', '7', 'a', 'A', '=', ':', '.', '\\', ' ', '~', '\n', '\r', 0, 31, 127, 128, 255, byte(r.Intn(256)))
	}
	return string(b)
}

func someNodes(r *rand.Rand, deep int) []api.Node {
	var l []api.Node
	for range 1 + r.Intn(3) {
		n := api.Node{Tag: oneOf(r, 0, 1, 9, 10, 112, 40785, math.MaxInt)}
		if deep < mostNest && r.Intn(3) == 0 {
			n.Kids = someNodes(r, deep+1)
		} else {
			n.Value = someText(r)
		}
		l = append(l, n)
	}
	return l
}

// someDigits is digits, mostly as many as may be.
func someDigits(r *rand.Rand, most int) string {
	n := oneOf(r, most, most, most-1, 1, 1+r.Intn(most))
	b := make([]byte, n)
	for i := range b {
		b[i] = byte('0' + r.Intn(10))
	}
	return string(b)
}

func someField(r *rand.Rand, n int) api.Field {
	switch {
	case n == 7:
		return field(n, someDigits(r, 10))
	case n == 11:
		return field(n, someDigits(r, 6))
	case n == 32:
		return field(n, someDigits(r, 11))
	case r.Intn(4) == 0:
		return kids(n, someNodes(r, 1)...)
	}
	return field(n, someText(r))
}

// told are the numbers that the chapter names, with some beside them.
var told = []int{2, 3, 4, 5, 6, 7, 8, 10, 11, 12, 13, 14, 22, 25, 31, 32, 33, 37, 38, 39, 40, 41, 42, 48, 49, 52, 55, 64, 66, 67, 70, 89, 90, 91, 128}

// wholeMessage is some whole message; mostly such a one as can be taken back.
func wholeMessage(r *rand.Rand) api.Message {
	m := of(oneOf(r, allTypes()...))
	every := r.Intn(8)
	for _, n := range told {
		if r.Intn(8) < every || (n == 7 || n == 11) && r.Intn(4) > 0 {
			m.Fields = append(m.Fields, someField(r, n))
		}
	}
	return m
}

// bent is a message with something changed, so that it may be not whole.
func bent(r *rand.Rand, m api.Message) api.Message {
	m.Fields = slices.Clone(m.Fields)
	if len(m.Fields) == 0 {
		return of(oneOf(r, "0400", "", "x", m.MTI), field(oneOf(r, edges...), "1"))
	}
	f := &m.Fields[r.Intn(len(m.Fields))]
	switch r.Intn(9) {
	case 0:
		m.MTI = oneOf(r, "", "0111", "0400", "2100", m.MTI+"0", strings.TrimSuffix(m.MTI, "0"), oneOf(r, allTypes()...))
	case 1:
		f.Number = oneOf(r, edges...)
	case 2:
		f.Number = oneOf(r, told...)
	case 3:
		f.Value, f.Kids = "x", leaves(1)
	case 4:
		f.Value, f.Kids = "", append(someNodes(r, 1), leaf(oneOf(r, -1, math.MinInt, 0), "x"))
	case 5:
		f.Value, f.Kids = "", []api.Node{inner(3, api.Node{Tag: 2, Value: oneOf(r, "x", ""), Kids: leaves(1)})}
	case 6:
		f.Value, f.Kids = "", nested(7+r.Intn(4))
	case 7:
		f.Value, f.Kids = "", append(leaves(497+r.Intn(3)), nested(1+r.Intn(3))...)
	case 8:
		f.Kids, f.Value = nil, oneOf(r, "", "a", "1a", strings.Repeat("1", 7), strings.Repeat("1", 11), strings.Repeat("1", 12), "-1", "١")
	}
	return m
}

// someMessages are whole ones and others.
func someMessages(seed int64, n int) []api.Message {
	r := rand.New(rand.NewSource(seed))
	l := []api.Message{{}, of("0100"), of("x"), all("0200"), all("1420"), all("")}
	for range n {
		m := wholeMessage(r)
		l = append(l, m, bent(r, m), bent(r, bent(r, m)))
	}
	return l
}
