package stan_test

import (
	"fmt"
	"math"
	"math/rand"
	"slices"
	"strings"
	"testing"

	"turnstile/api"
	"turnstile/stan"
)

// edges are numbers at and about those that the chapter names, and far from them.
var edges = []int{math.MinInt, math.MinInt + 1, -1 << 32, -999999, -129, -65, -2, -1, 0, 1, 2, 3, 62, 63, 64, 65, 66, 127, 128, 129, 130, 256 + 2, 999998, 999999, 1000000, 1000001, 1<<20 + 5, 1<<32 + 5, 1<<32 + 64, math.MaxInt - 1, math.MaxInt}

func made(t *testing.T, most int) *stan.Numbers {
	t.Helper()
	n, e := stan.New(most)
	if n == nil || e != api.OK {
		t.Fatalf("18.1: New(%d) is %d, and numbers: %v", most, e, n != nil)
	}
	return n
}

// takes takes numbers, which must be these.
func takes(t *testing.T, n *stan.Numbers, numbers ...int) {
	t.Helper()
	for _, want := range numbers {
		if k, e := n.Take(); k != want || e != api.OK {
			t.Fatalf("18.2: Take() = %d, %d; must be %d, 0", k, e, want)
		}
	}
}

func spent(t *testing.T, n *stan.Numbers) {
	t.Helper()
	if k, e := n.Take(); k != 0 || e != api.ErrSpent {
		t.Fatalf("18.2: Take() = %d, %d; must be 0, ErrSpent", k, e)
	}
}

// frees gives numbers back, each of which must be answered so.
func frees(t *testing.T, n *stan.Numbers, want api.Errno, numbers ...int) {
	t.Helper()
	for _, k := range numbers {
		if e := n.Free(k); e != want {
			t.Fatalf("18.2: Free(%d) = %d; must be %d", k, e, want)
		}
	}
}

// out holds that just these are out, of all from some below 1 to some above most.
func out(t *testing.T, n *stan.Numbers, most int, numbers ...int) {
	t.Helper()
	for k := -70; k <= most+140; k++ {
		if n.Taken(k) != slices.Contains(numbers, k) {
			t.Fatalf("18.2: Taken(%d) = %v, where %v are out", k, n.Taken(k), numbers)
		}
	}
	if n.Len() != len(numbers) {
		t.Fatalf("18.2: Len() = %d, where %v are out", n.Len(), numbers)
	}
}

func field(n int, v string) api.Field { return api.Field{Number: n, Value: v} }

func kids(n int, l ...api.Node) api.Field { return api.Field{Number: n, Kids: l} }

func leaf(tag int, v string) api.Node { return api.Node{Tag: tag, Value: v} }

func inner(tag int, l ...api.Node) api.Node { return api.Node{Tag: tag, Kids: l} }

func of(mti string, l ...api.Field) api.Message { return api.Message{MTI: mti, Fields: l} }

// nested is nodes so deep, the last with a value.
func nested(deep int) []api.Node {
	l := []api.Node{leaf(1, "x")}
	for range deep - 1 {
		l = []api.Node{inner(2, l...)}
	}
	return l
}

func leaves(n int) []api.Node { return slices.Repeat([]api.Node{leaf(7, "v")}, n) }

// fieldNumbers are all that there are.
func fieldNumbers() []int {
	var l []int
	for n := 2; n <= 64; n++ {
		l = append(l, n)
	}
	for n := 66; n <= 128; n++ {
		l = append(l, n)
	}
	return l
}

// every is a message with all fields, each with that value.
func every(mti, value string) api.Message {
	m := of(mti)
	for _, n := range fieldNumbers() {
		m.Fields = append(m.Fields, field(n, value))
	}
	return m
}

func echoOf(t *testing.T, fields ...int) *stan.Echo {
	t.Helper()
	e, code := stan.NewEcho(fields...)
	if e == nil || code != api.OK {
		t.Fatalf("18.5: NewEcho(%v) is %d, and an echo: %v", fields, code, e != nil)
	}
	return e
}

func saves(t *testing.T, e *stan.Echo, number int, m api.Message, want api.Errno) {
	t.Helper()
	if code := e.Save(number, m); code != want {
		t.Fatalf("18.6: Save(%d, %.300s) = %d; must be %d", number, seen(m), code, want)
	}
}

func restores(t *testing.T, e *stan.Echo, number int, m, want api.Message, wantOK bool) {
	t.Helper()
	got, ok := e.Restore(number, m)
	if seen(got) != seen(want) || ok != wantOK {
		t.Fatalf("18.7: Restore(%d, %.300s) = %.300s, %v; must be %.300s, %v", number, seen(m), seen(got), ok, seen(want), wantOK)
	}
}

func drops(t *testing.T, e *stan.Echo, number int, want bool) {
	t.Helper()
	if got := e.Drop(number); got != want {
		t.Fatalf("18.7: Drop(%d) = %v; must be %v", number, got, want)
	}
}

func lasts(t *testing.T, e *stan.Echo, want int) {
	t.Helper()
	if e.Len() != want {
		t.Fatalf("18.7: Len() = %d; must be %d", e.Len(), want)
	}
}

// seen is a message as a text; a list that is nil and one that is empty are the same in it.
func seen(m api.Message) string {
	var b strings.Builder
	fmt.Fprintf(&b, "%q", m.MTI)
	for _, f := range m.Fields {
		fmt.Fprintf(&b, " %d=%q", f.Number, f.Value)
		seeNodes(&b, f.Kids)
	}
	return b.String()
}

func seeNodes(b *strings.Builder, l []api.Node) {
	for _, n := range l {
		fmt.Fprintf(b, "[%d=%q", n.Tag, n.Value)
		seeNodes(b, n.Kids)
		b.WriteString("]")
	}
}

func oneOf[T any](r *rand.Rand, l ...T) T { return l[r.Intn(len(l))] }

// someFields are fields for an echo: each once, in any order.
func someFields(r *rand.Rand) []int {
	l := fieldNumbers()
	r.Shuffle(len(l), func(i, k int) { l[i], l[k] = l[k], l[i] })
	return l[:oneOf(r, 1, 2, 4, 8, 1+r.Intn(len(l)))]
}

func someNodes(r *rand.Rand, deep int) []api.Node {
	var l []api.Node
	for range 1 + r.Intn(3) {
		n := api.Node{Tag: r.Intn(300)}
		if deep < 8 && r.Intn(3) == 0 {
			n.Kids = someNodes(r, deep+1)
		} else {
			n.Value = oneOf(r, "", "a", "\x00\xFF", fmt.Sprint(r.Intn(1000)))
		}
		l = append(l, n)
	}
	return l
}

// wholeMessage is some whole message, of few or of many fields.
func wholeMessage(r *rand.Rand) api.Message {
	m := of(oneOf(r, "0100", "0210", "1221", "0430", "0800", "1510"))
	oneIn := oneOf(r, 1, 2, 4, 20, 100)
	for _, n := range fieldNumbers() {
		switch {
		case r.Intn(oneIn) > 0:
		case r.Intn(4) == 0:
			m.Fields = append(m.Fields, kids(n, someNodes(r, 1)...))
		default:
			m.Fields = append(m.Fields, field(n, oneOf(r, "", "x", fmt.Sprint(r.Intn(1000000)))))
		}
	}
	return m
}

// brokenMessages are not whole, each for another cause.
func brokenMessages() []api.Message {
	return []api.Message{
		{}, of(""), of("x"), of("0111"), of("0400"), of("2100"), of("01000"), of("010"), of("0900", field(11, "1")),
		of("0100", field(1, "")), of("0100", field(0, "a")), of("0100", field(-11, "a")), of("0100", field(65, "a")), of("0100", field(129, "a")), of("0100", field(11, "a"), field(math.MaxInt, "")),
		of("0100", field(11, "a"), field(11, "a")), of("0100", field(11, "a"), field(7, "b")), of("0100", field(37, "a"), field(7, "b"), field(55, "c")),
		of("0100", api.Field{Number: 55, Value: "x", Kids: leaves(1)}), of("0100", api.Field{Number: 11, Value: "x", Kids: leaves(1)}),
		of("0100", kids(55, leaf(-1, "a"))), of("0100", kids(55, inner(1, leaf(math.MinInt, "a")))),
		of("0100", kids(55, api.Node{Tag: 1, Value: "x", Kids: leaves(1)})),
		of("0100", kids(55, nested(9)...)), of("0100", kids(55, leaves(501)...)), of("0100", kids(55, append(leaves(498), nested(3)...)...)),
	}
}

// someMessage is mostly whole.
func someMessage(r *rand.Rand) api.Message {
	if r.Intn(6) == 0 {
		return oneOf(r, brokenMessages()...)
	}
	return wholeMessage(r)
}
