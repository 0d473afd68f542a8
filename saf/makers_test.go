package saf_test

import (
	"fmt"
	"math"
	"math/rand"
	"slices"
	"strings"
	"testing"

	"turnstile/api"
	"turnstile/saf"
)

// edges are numbers at and about those that the chapter names, and far from them.
var edges = []int{math.MinInt, math.MinInt + 1, -1 << 32, -100000, -10000, -100, -2, -1, 0, 1, 2, 3, 99, 100, 101, 102, 9999, 10000, 10001, 99999, 100000, 100001, 999999, 1<<32 + 1, math.MaxInt - 1, math.MaxInt}

func field(n int, v string) api.Field { return api.Field{Number: n, Value: v} }

func kids(n int, l ...api.Node) api.Field { return api.Field{Number: n, Kids: l} }

func leaf(tag int, v string) api.Node { return api.Node{Tag: tag, Value: v} }

func inner(tag int, l ...api.Node) api.Node { return api.Node{Tag: tag, Kids: l} }

func of(mti string, l ...api.Field) api.Message { return api.Message{MTI: mti, Fields: l} }

// advice is one that is known by a label among those with the same Number.
func advice(label string, number int) api.Advice {
	return api.Advice{
		Link:    3,
		Number:  number,
		Message: of("0220", field(11, label), kids(48, leaf(1, label))),
		Repeat:  of("0221", field(11, label+" again"), kids(48, inner(2, leaf(1, label)))),
	}
}

func numbered(n int) api.Advice { return advice(fmt.Sprint(n), n) }

func several(numbers ...int) []api.Advice {
	var l []api.Advice
	for _, n := range numbers {
		l = append(l, numbered(n))
	}
	return l
}

func made(t *testing.T, most, retry, tries int) *saf.Queue {
	t.Helper()
	q, e := saf.New(most, retry, tries)
	if q == nil || e != api.OK {
		t.Fatalf("S1: New(%d, %d, %d) is %d, and a queue: %v", most, retry, tries, e, q != nil)
	}
	return q
}

func puts(t *testing.T, q *saf.Queue, want api.Errno, all ...api.Advice) {
	t.Helper()
	for _, a := range all {
		if e := q.Put(a); e != want {
			t.Fatalf("S2: Put(%.300s) = %d; must be %d", seen(a), e, want)
		}
	}
}

// sends holds that this message goes out next.
func sends(t *testing.T, q *saf.Queue, want api.Message) {
	t.Helper()
	if m, ok := q.Next(true); seenMessage(m) != seenMessage(want) || !ok {
		t.Fatalf("S3: Next = %.300s, %v; must be %.300s", seenMessage(m), ok, seenMessage(want))
	}
}

func first(t *testing.T, q *saf.Queue, n int) {
	t.Helper()
	sends(t, q, numbered(n).Message)
}

func again(t *testing.T, q *saf.Queue, n int) {
	t.Helper()
	sends(t, q, numbered(n).Repeat)
}

// silent holds that nothing goes out.
func silent(t *testing.T, q *saf.Queue, ready bool) {
	t.Helper()
	if m, ok := q.Next(ready); seenMessage(m) != seenMessage(api.Message{}) || ok {
		t.Fatalf("S3: Next(%v) = %.300s, %v; must be nothing", ready, seenMessage(m), ok)
	}
}

func ticks(q *saf.Queue, n int) {
	for range n {
		q.Tick()
	}
}

func answers(t *testing.T, q *saf.Queue, want bool, numbers ...int) {
	t.Helper()
	for _, n := range numbers {
		if q.Answer(n) != want {
			t.Fatalf("S4: Answer(%d) = %v; must be %v", n, !want, want)
		}
	}
}

// gone holds that just these were given up since it was asked last.
func gone(t *testing.T, q *saf.Queue, want ...int) {
	t.Helper()
	if l := q.Gone(); !slices.Equal(l, want) {
		t.Fatalf("S5: Gone is %.300s; must be %.300s", fmt.Sprint(l), fmt.Sprint(want))
	}
}

// stands holds that so many were given up, and just these wait.
func stands(t *testing.T, q *saf.Queue, dead int, all ...api.Advice) {
	t.Helper()
	if q.Len() != len(all) || q.Dead() != dead {
		t.Fatalf("S5: Len %d, Dead %d; must be %d, %d", q.Len(), q.Dead(), len(all), dead)
	}
	if l := q.All(); seenAll(l) != seenAll(all) {
		t.Fatalf("S5: All tells %.300s; must be %.300s", seenAll(l), seenAll(all))
	}
}

// seen is an advice as a text; a list that is nil and one that is empty are the same in it.
func seen(a api.Advice) string {
	return fmt.Sprintf("%d %d %s / %s", a.Link, a.Number, seenMessage(a.Message), seenMessage(a.Repeat))
}

func seenMessage(m api.Message) string {
	var b strings.Builder
	fmt.Fprintf(&b, "%q", m.MTI)
	for _, f := range m.Fields {
		fmt.Fprintf(&b, " %d=%q", f.Number, f.Value)
		seeNodes(&b, f.Kids)
	}
	return b.String()
}

func seeNodes(b *strings.Builder, l []api.Node) {
	for _, n := range l {
		fmt.Fprintf(b, "[%d=%q", n.Tag, n.Value)
		seeNodes(b, n.Kids)
		b.WriteString("]")
	}
}

func seenAll(l []api.Advice) string {
	var texts []string
	for _, a := range l {
		texts = append(texts, seen(a))
	}
	return strings.Join(texts, "; ")
}

func oneOf[T any](r *rand.Rand, l ...T) T { return l[r.Intn(len(l))] }

// nested is nodes so deep, the last with a value.
func nested(deep int) []api.Node {
	l := []api.Node{leaf(1, "x")}
	for range deep - 1 {
		l = []api.Node{inner(2, l...)}
	}
	return l
}

// oddMessages are such as no link would take, and such as it would.
func oddMessages() []api.Message {
	return []api.Message{
		{}, of("x"), of("0220"), of("\x00\xFF"), {Fields: []api.Field{}},
		of("0900", field(-1, "a"), field(0, ""), field(math.MaxInt, "b")),
		of("0210", field(11, "a"), field(11, "a"), field(7, "b"), field(11, "c")),
		of("0220", api.Field{Number: 55, Value: "both", Kids: []api.Node{leaf(1, "a"), inner(-2, leaf(3, "b"), leaf(3, "b"))}}),
		of("0220", kids(55, nested(50)...), kids(48, slices.Repeat([]api.Node{leaf(7, "v")}, 600)...)),
		of("0220", kids(55, api.Node{Tag: 1, Value: "x", Kids: []api.Node{}}), kids(56, []api.Node{}...)),
	}
}

// some is any advice, of few Numbers.
func some(r *rand.Rand) api.Advice {
	a := advice(fmt.Sprint("label ", r.Intn(1_000_000)), r.Intn(8))
	a.Link = r.Intn(5)
	switch r.Intn(8) {
	case 0:
		a.Message = oneOf(r, oddMessages()...)
	case 1:
		a.Repeat = oneOf(r, oddMessages()...)
	}
	return a
}
