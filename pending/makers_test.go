package pending_test

import (
	"fmt"
	"math"
	"math/rand"
	"slices"
	"strings"
	"testing"

	"turnstile/api"
	"turnstile/pending"
)

// edges are numbers at and about those that the chapter names, and far from them.
var edges = []int{math.MinInt, math.MinInt + 1, -1 << 32, -100000, -10000, -2, -1, 0, 1, 2, 3, 255, 256, 257, 9999, 10000, 10001, 99999, 100000, 100001, 100002, 1<<20 + 5, 1<<32 + 1, math.MaxInt - 1, math.MaxInt}

func field(n int, v string) api.Field { return api.Field{Number: n, Value: v} }

func kids(n int, l ...api.Node) api.Field { return api.Field{Number: n, Kids: l} }

func leaf(tag int, v string) api.Node { return api.Node{Tag: tag, Value: v} }

func inner(tag int, l ...api.Node) api.Node { return api.Node{Tag: tag, Kids: l} }

func of(mti string, l ...api.Field) api.Message { return api.Message{MTI: mti, Fields: l} }

// request is one that is known by a label among those with the same Key, To and Number.
func request(label, key string, to, number int) api.Pending {
	return api.Pending{
		Key:     api.Key{Link: 3, Class: 2, Number: key, Stamp: "1115120000", Terminal: "T"},
		From:    3,
		To:      to,
		Number:  number,
		Request: of("0200", field(11, label), kids(48, leaf(1, label))),
		Sent:    of("1200", field(11, label+" as it went")),
	}
}

// numbered is one with a Key of its own, for the link 1, with that Number.
func numbered(n int) api.Pending { return request(fmt.Sprint(n), fmt.Sprint(n), 1, n) }

func several(numbers ...int) []api.Pending {
	var l []api.Pending
	for _, n := range numbers {
		l = append(l, numbered(n))
	}
	return l
}

func made(t *testing.T, most, timeout, late int) *pending.Table {
	t.Helper()
	x, e := pending.New(most, timeout, late)
	if x == nil || e != api.OK {
		t.Fatalf("19.1: New(%d, %d, %d) is %d, and a table: %v", most, timeout, late, e, x != nil)
	}
	return x
}

func adds(t *testing.T, x *pending.Table, want api.Errno, all ...api.Pending) {
	t.Helper()
	for _, p := range all {
		if e := x.Add(p); e != want {
			t.Fatalf("19.2: Add(%.300s) = %d; must be %d", seen(p), e, want)
		}
	}
}

func has(t *testing.T, x *pending.Table, want bool, all ...api.Pending) {
	t.Helper()
	for _, p := range all {
		if x.Has(p.Key) != want {
			t.Fatalf("19.2: Has(%+v) = %v; must be %v", p.Key, !want, want)
		}
	}
}

// answers asks for requests by their To and Number: each must come as it was added.
func answers(t *testing.T, x *pending.Table, want api.Errno, all ...api.Pending) {
	t.Helper()
	for _, p := range all {
		if got, e := x.Answer(p.To, p.Number); seen(got) != seen(p) || e != want {
			t.Fatalf("19.3: Answer(%d, %d) = %.300s, %d; must be %.300s, %d", p.To, p.Number, seen(got), e, seen(p), want)
		}
	}
}

func none(t *testing.T, x *pending.Table, to, number int) {
	t.Helper()
	if got, e := x.Answer(to, number); seen(got) != seen(api.Pending{}) || e != api.ErrNone {
		t.Fatalf("19.3: Answer(%d, %d) = %.300s, %d; must be nothing, ErrNone", to, number, seen(got), e)
	}
}

// ticks lets a tick go by, at which just these are late, and these are gone.
func ticks(t *testing.T, x *pending.Table, late, gone []api.Pending) {
	t.Helper()
	if l, g := x.Tick(); seenAll(l) != seenAll(late) || seenAll(g) != seenAll(gone) {
		t.Fatalf("19.4: a tick: late %.300s, gone %.300s; must be %.300s, %.300s", seenAll(l), seenAll(g), seenAll(late), seenAll(gone))
	}
}

// quiet lets ticks go by at which nothing comes.
func quiet(t *testing.T, x *pending.Table, n int) {
	t.Helper()
	for range n {
		if l, g := x.Tick(); len(l) != 0 || len(g) != 0 {
			t.Fatalf("19.4: a tick: late %.300s, gone %.300s; must be nothing", seenAll(l), seenAll(g))
		}
	}
}

// stands holds that so many are remembered, and just these wait.
func stands(t *testing.T, x *pending.Table, late int, all ...api.Pending) {
	t.Helper()
	if x.Len() != len(all) || x.Late() != late {
		t.Fatalf("19.5: Len %d, Late %d; must be %d, %d", x.Len(), x.Late(), len(all), late)
	}
	if l := x.All(); seenAll(l) != seenAll(all) {
		t.Fatalf("19.5: All tells %.300s; must be %.300s", seenAll(l), seenAll(all))
	}
	has(t, x, true, all...)
}

// seen is a request as a text; a list that is nil and one that is empty are the same in it.
func seen(p api.Pending) string {
	var b strings.Builder
	fmt.Fprintf(&b, "%+q %d %d %d", []any{p.Key.Link, p.Key.Class, p.Key.Number, p.Key.Stamp, p.Key.Terminal}, p.From, p.To, p.Number)
	for _, m := range []api.Message{p.Request, p.Sent} {
		fmt.Fprintf(&b, " %q", m.MTI)
		for _, f := range m.Fields {
			fmt.Fprintf(&b, " %d=%q", f.Number, f.Value)
			seeNodes(&b, f.Kids)
		}
	}
	return b.String()
}

func seeNodes(b *strings.Builder, l []api.Node) {
	for _, n := range l {
		fmt.Fprintf(b, "[%d=%q", n.Tag, n.Value)
		seeNodes(b, n.Kids)
		b.WriteString("]")
	}
}

func seenAll(l []api.Pending) string {
	var texts []string
	for _, p := range l {
		texts = append(texts, seen(p))
	}
	return strings.Join(texts, "; ")
}

func oneOf[T any](r *rand.Rand, l ...T) T { return l[r.Intn(len(l))] }

// nested is nodes so deep, the last with a value.
func nested(deep int) []api.Node {
	l := []api.Node{leaf(1, "x")}
	for range deep - 1 {
		l = []api.Node{inner(2, l...)}
	}
	return l
}

// oddMessages are such as no link would take, and such as it would.
func oddMessages() []api.Message {
	return []api.Message{
		{}, of("x"), of("0200"), of("\x00\xFF"), {Fields: []api.Field{}},
		of("0900", field(-1, "a"), field(0, ""), field(math.MaxInt, "b")),
		of("0200", field(11, "a"), field(11, "a"), field(7, "b"), field(11, "c")),
		of("0200", api.Field{Number: 55, Value: "both", Kids: []api.Node{leaf(1, "a"), inner(-2, leaf(3, "b"), leaf(3, "b"))}}),
		of("0200", kids(55, nested(50)...), kids(48, slices.Repeat([]api.Node{leaf(7, "v")}, 600)...)),
		of("0200", kids(55, api.Node{Tag: 1, Value: "x", Kids: []api.Node{}}), kids(56, []api.Node{}...)),
	}
}

// some is any request, of few Keys, Tos and Numbers.
func some(r *rand.Rand) api.Pending {
	p := request(fmt.Sprint("label ", r.Intn(1_000_000)), fmt.Sprint(r.Intn(8)), r.Intn(2), r.Intn(5))
	p.Key.Link, p.From = r.Intn(2), r.Intn(5)
	switch r.Intn(8) {
	case 0:
		p.Request = oneOf(r, oddMessages()...)
	case 1:
		p.Sent = oneOf(r, oddMessages()...)
	}
	return p
}
