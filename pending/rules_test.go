package pending_test

import (
	"cmp"
	"fmt"
	"math/rand"
	"reflect"
	"runtime"
	"slices"
	"strings"
	"sync"
	"testing"
	"unsafe"

	"turnstile/api"
	"turnstile/pending"
)

// What holds of all calls (P1 to P5).

// told is what many calls answer, as texts.
func told() []string {
	var l []string
	add := func(args ...any) { l = append(l, fmt.Sprint(args...)) }
	r := rand.New(rand.NewSource(1904))
	for _, n := range edges {
		x, e := pending.New(n, oneOf(r, 1, 3, n), 2)
		add(x != nil, e)
		for i := 0; x != nil && i < 300; i++ {
			p, e := x.Answer(r.Intn(2), r.Intn(5))
			add(x.Add(some(r)), x.Add(some(r)), seen(p), e, x.Has(some(r).Key), x.Len(), x.Late(), seenAll(x.All()))
			if r.Intn(3) == 0 {
				late, gone := x.Tick()
				add(seenAll(late), " | ", seenAll(gone))
			}
		}
	}
	return l
}

// TestSameAgain: every call answers, and the same calls answer the same, whatever was asked between, and by whom.
func TestSameAgain(t *testing.T) {
	first := told()
	var group sync.WaitGroup
	for range 4 {
		group.Go(func() {
			if !slices.Equal(first, told()) {
				t.Error("P4: the same calls answer another thing once more")
			}
		})
	}
	group.Wait()
}

// TestTablesAreTheirOwn: what is done with one does not show in another.
func TestTablesAreTheirOwn(t *testing.T) {
	r := rand.New(rand.NewSource(1905))
	var all []*both
	for i := range 12 {
		all = append(all, newBoth(t, 1+i%4, 1+i%3, 1+i%5))
	}
	for range 5000 {
		oneOf(r, all...).anything(r)
		oneOf(r, all...).counts()
	}
	for _, b := range all {
		b.stands()
	}
}

// TestAskingChangesNothing: nor does what is refused.
func TestAskingChangesNothing(t *testing.T) {
	r := rand.New(rand.NewSource(1906))
	for range 100 {
		b := newBoth(t, 1+r.Intn(5), 1+r.Intn(5), 1+r.Intn(5))
		for range 100 {
			b.anything(r)
			for _, p := range b.x.All() {
				b.x.Has(p.Key)
				adds(t, b.x, api.ErrTwice, p, request("x", "another", p.To, p.Number))
				p.To = -5
				adds(t, b.x, api.ErrTwice, p)
			}
			if b.x.Len() == b.m.most {
				adds(t, b.x, api.ErrFull, request("x", "another", -5, 1))
			}
			none(t, b.x, -5, 1)
			b.stands()
		}
	}
}

// TestNothingMoreIsExported: the timers lend the table none of their calls.
func TestNothingMoreIsExported(t *testing.T) {
	var names []string
	for m := range reflect.TypeFor[*pending.Table]().Methods() {
		names = append(names, m.Name)
	}
	if want := []string{"Add", "All", "Answer", "Has", "Late", "Len", "Tick"}; !slices.Equal(names, want) {
		t.Errorf("19: the table's calls are %q; must be %q", names, want)
	}
	for f := range reflect.TypeFor[pending.Table]().Fields() {
		if f.IsExported() {
			t.Errorf("19: the table's field %s is exported", f.Name)
		}
	}
}

// span is memory that a list or a text has, spare room too.
type span struct{ from, to uintptr }

func listSpan[T any](l []T) span {
	var one T
	from := uintptr(unsafe.Pointer(unsafe.SliceData(l)))
	return span{from, from + uintptr(cap(l))*unsafe.Sizeof(one)}
}

func textSpan(s string) span {
	from := uintptr(unsafe.Pointer(unsafe.StringData(s)))
	return span{from, from + uintptr(len(s))}
}

func nodeSpans(l []api.Node) []span {
	all := []span{listSpan(l)}
	for _, n := range l {
		all = append(append(all, textSpan(n.Value)), nodeSpans(n.Kids)...)
	}
	return all
}

func spans(p api.Pending) []span {
	all := []span{textSpan(p.Key.Number), textSpan(p.Key.Stamp), textSpan(p.Key.Terminal)}
	for _, m := range []api.Message{p.Request, p.Sent} {
		all = append(all, textSpan(m.MTI), listSpan(m.Fields))
		for _, f := range m.Fields {
			all = append(append(all, textSpan(f.Value)), nodeSpans(f.Kids)...)
		}
	}
	return all
}

func allSpans(l []api.Pending) []span {
	all := []span{listSpan(l)}
	for _, p := range l {
		all = append(all, spans(p)...)
	}
	return all
}

// shared tells whether two of some spans have memory in common.
func shared(all ...[]span) bool {
	l := slices.DeleteFunc(slices.Concat(all...), func(s span) bool { return s.from == s.to })
	slices.SortFunc(l, func(a, b span) int { return cmp.Compare(a.from, b.from) })
	for i := 1; i < len(l); i++ {
		if l[i].from < l[i-1].to {
			return true
		}
	}
	return false
}

// roomy is a request of memory of its own, with something behind each list in its array.
func roomy(p api.Pending) api.Pending {
	p.Key.Number, p.Key.Stamp, p.Key.Terminal = strings.Clone(p.Key.Number), strings.Clone(p.Key.Stamp), strings.Clone(p.Key.Terminal)
	p.Request, p.Sent = roomyMessage(p.Request), roomyMessage(p.Sent)
	return p
}

func roomyMessage(m api.Message) api.Message {
	l := make([]api.Field, 0, len(m.Fields)+2)
	for _, f := range m.Fields {
		l = append(l, api.Field{Number: f.Number, Value: strings.Clone(f.Value), Kids: roomyNodes(f.Kids)})
	}
	return api.Message{MTI: strings.Clone(m.MTI), Fields: append(l, field(11, "behind"), field(37, "behind"))[:len(l)]}
}

func roomyNodes(l []api.Node) []api.Node {
	c := make([]api.Node, 0, len(l)+2)
	for _, n := range l {
		c = append(c, api.Node{Tag: n.Tag, Value: strings.Clone(n.Value), Kids: roomyNodes(n.Kids)})
	}
	return append(c, leaf(7, "behind"), leaf(8, "behind"))[:len(l)]
}

// behind is a request with what stands behind its lists in their arrays, as a text.
func behind(p api.Pending) string {
	for _, m := range []*api.Message{&p.Request, &p.Sent} {
		m.Fields = slices.Clone(m.Fields[:cap(m.Fields)])
		for i, f := range m.Fields {
			m.Fields[i].Kids = nodesBehind(f.Kids)
		}
	}
	return seen(p)
}

func nodesBehind(l []api.Node) []api.Node {
	c := slices.Clone(l[:cap(l)])
	for i, n := range c {
		c[i].Kids = nodesBehind(n.Kids)
	}
	return c
}

// scribble writes over requests, up to the ends of their arrays.
func scribble(all []api.Pending) {
	all = all[:cap(all)]
	for i, p := range all {
		for _, m := range []api.Message{p.Request, p.Sent} {
			l := m.Fields[:cap(m.Fields)]
			for i := range l {
				scribbleNodes(l[i].Kids)
				l[i] = field(-99, "scribbled")
			}
		}
		all[i] = api.Pending{Key: api.Key{Number: "scribbled"}, To: -99, Request: of("scribbled"), Sent: of("scribbled")}
	}
}

func scribbleNodes(l []api.Node) {
	l = l[:cap(l)]
	for i := range l {
		scribbleNodes(l[i].Kids)
		l[i] = leaf(-99, "scribbled")
	}
}

// TestNewMemory: each time that a request is told it is memory of its own; and lists that stood in two places have become two.
func TestNewMemory(t *testing.T) {
	twice := []api.Node{inner(112, leaf(90, "x"))}
	m := of("0200", kids(48, twice...), kids(55, inner(1, twice...), inner(2, twice...)))
	for _, p := range []api.Pending{roomy(numbered(1)), roomy(numbered(2)), {Request: m, Sent: m}} {
		x, other := made(t, 2, 2, 2), roomy(numbered(7))
		adds(t, x, api.OK, p, other)
		lists := [][]api.Pending{x.All(), x.All()}
		x.Tick()
		late, _ := x.Tick()
		one, e := x.Answer(p.To, p.Number)
		x.Tick()
		_, gone := x.Tick()
		adds(t, x, api.OK, p)
		two, f := x.Answer(p.To, p.Number)
		if len(late) != 2 || e != api.ErrLate || len(gone) != 1 || f != api.OK {
			t.Fatalf("19.4: %d late, %d gone; Answer %d, %d", len(late), len(gone), e, f)
		}
		var told []span
		for _, l := range append(lists, late, gone, []api.Pending{one, two}) {
			told = append(told, allSpans(l)...)
		}
		if shared(told) {
			t.Fatalf("P3: of %.300s memory is told twice", seen(p))
		}
		for _, given := range slices.Concat(spans(p), spans(other)) {
			if shared(told, []span{given}) {
				t.Fatalf("P3: of %.300s memory is told that was handed in", seen(p))
			}
		}
	}
}

// TestWritingShowsNowhere: into what was handed in, and into what was told, spare room too; and nothing that was handed in is written into.
func TestWritingShowsNowhere(t *testing.T) {
	r := rand.New(rand.NewSource(1907))
	for range 200 {
		b := newBoth(t, 1+r.Intn(5), 1+r.Intn(3), 1+r.Intn(4))
		for range 100 {
			plain := some(r)
			p := roomy(plain)
			before := behind(p)
			if e := b.x.Add(p); e != b.m.add(plain) {
				t.Fatalf("19.2: Add(%.300s) = %d", seen(p), e)
			}
			if behind(p) != before {
				t.Fatalf("P3: what was given became %.300s", behind(p))
			}
			scribble([]api.Pending{p})
			scribble(b.x.All())
			b.stands()
			if r.Intn(2) == 0 {
				late, gone := b.x.Tick()
				l, g := b.m.tick()
				if !slices.EqualFunc(late, l, same) || !slices.EqualFunc(gone, g, same) {
					t.Fatalf("P3: behind writing a tick tells %.300s and %.300s", seenAll(late), seenAll(gone))
				}
				scribble(late)
				if !slices.EqualFunc(gone, g, same) {
					t.Fatal("P3: what is gone changes with what is late")
				}
				scribble(gone)
			}
			to, number := r.Intn(2), r.Intn(5)
			got, e := b.x.Answer(to, number)
			if want, f := b.m.answer(to, number); !same(got, want) || e != f {
				t.Fatalf("P3: behind writing Answer tells %.300s, %d", seen(got), e)
			}
			scribble([]api.Pending{got})
		}
	}
}

// TestTextsAreNotKept: what becomes of their bytes later does not show.
func TestTextsAreNotKept(t *testing.T) {
	b := []byte("number stamp terminal mti value leaf")
	text := func(from, to int) string { return unsafe.String(&b[from], to-from) }
	p := api.Pending{Key: api.Key{Number: text(0, 6), Stamp: text(7, 12), Terminal: text(13, 21)}, To: 1, Number: 2}
	p.Request = of(text(22, 25), field(2, text(26, 31)), kids(3, leaf(4, text(32, 36))))
	p.Sent = p.Request
	want := roomy(p)
	x := made(t, 2, 1, 1)
	adds(t, x, api.OK, p)
	x.Has(p.Key)
	clear(b)
	has(t, x, false, p)
	stands(t, x, 0, want)
	adds(t, x, api.ErrTwice, want)
	ticks(t, x, []api.Pending{want}, nil)
	has(t, x, false, want)
	ticks(t, x, nil, []api.Pending{want})
}

// heap is how many bytes are in use.
func heap() int {
	var m runtime.MemStats
	runtime.GC()
	runtime.ReadMemStats(&m)
	return int(m.HeapAlloc)
}

// long is a request of many bytes.
func long(n int) api.Pending {
	p := numbered(n)
	p.Request.Fields = append(p.Request.Fields, field(60, strings.Repeat("3", 50_000)))
	p.Sent.Fields = append(p.Sent.Fields, field(60, strings.Repeat("4", 50_000)))
	return p
}

// TestNoMoreIsKept: of what was refused, answered, answered late, or is gone.
func TestNoMoreIsKept(t *testing.T) {
	x := made(t, 10, 2, 3)
	before := heap()
	holds := func(what string) {
		t.Helper()
		if more := heap() - before; x.Len()+x.Late() != 1 || more > 500_000 {
			t.Errorf("P3: behind 200 requests, %s, of which a table holds %d, it keeps %d bytes", what, x.Len()+x.Late(), more)
		}
	}
	for n := range 200 {
		adds(t, x, api.OK, long(n))
		if n < 199 {
			x.Answer(1, n)
		}
	}
	holds("answered")
	for range 200 {
		adds(t, x, api.ErrTwice, long(199))
	}
	holds("refused")
	x.Tick()
	x.Tick()
	for n := range 200 {
		adds(t, x, api.OK, long(n+1000))
		x.Tick()
		x.Tick()
		x.Answer(1, n+1000)
	}
	x.Tick()
	x.Tick()
	adds(t, x, api.OK, numbered(0))
	holds("answered late")
	for n := range 200 {
		adds(t, x, api.OK, long(n+2000))
		x.Tick()
	}
	for range 5 {
		x.Tick()
	}
	adds(t, x, api.OK, numbered(0))
	holds("gone")
	y := made(t, 1, 1, 100000)
	for n := range 200 {
		adds(t, y, api.OK, long(n))
		y.Tick()
	}
	holds("pushed out")
	runtime.KeepAlive(x)
	runtime.KeepAlive(y)
}

// TestTableStaysSmall: however many requests go through it.
func TestTableStaysSmall(t *testing.T) {
	x := made(t, 100, 5, 7)
	before := heap()
	for n := range 300_000 {
		x.Add(numbered(n))
		x.Answer(1, n-n%50)
		if n%30 == 0 {
			x.Tick()
		}
	}
	if more := heap() - before; more > 1_000_000 {
		t.Errorf("19: behind 300000 requests a table of at most 100 keeps %d bytes", more)
	}
	runtime.KeepAlive(x)
}
