package saf_test

import (
	"cmp"
	"fmt"
	"math/rand"
	"reflect"
	"runtime"
	"slices"
	"strings"
	"sync"
	"testing"
	"unsafe"

	"turnstile/api"
	"turnstile/message"
	"turnstile/saf"
)

// What holds of all calls (P1 to P5).

// told is what many calls answer, as texts.
func told() []string {
	var l []string
	add := func(args ...any) { l = append(l, fmt.Sprint(args...)) }
	r := rand.New(rand.NewSource(2003))
	for _, n := range edges {
		q, e := saf.New(n, oneOf(r, 1, 3, n), 2)
		add(q != nil, e)
		for i := 0; q != nil && i < 300; i++ {
			m, ok := q.Next(r.Intn(4) > 0)
			add(q.Put(some(r)), q.Put(some(r)), seenMessage(m), ok, q.Answer(r.Intn(8)), q.Len(), q.Dead(), seenAll(q.All()))
			switch r.Intn(4) {
			case 0:
				q.Tick()
			case 1:
				q.Break()
			case 2:
				add(q.Gone())
			}
		}
	}
	return l
}

// TestSameAgain: every call answers, and the same calls answer the same, whatever was asked between, and by whom.
func TestSameAgain(t *testing.T) {
	first := told()
	var group sync.WaitGroup
	for range 4 {
		group.Go(func() {
			if !slices.Equal(first, told()) {
				t.Error("P4: the same calls answer another thing once more")
			}
		})
	}
	group.Wait()
}

// TestQueuesAreTheirOwn: what is done with one does not show in another.
func TestQueuesAreTheirOwn(t *testing.T) {
	r := rand.New(rand.NewSource(2004))
	var all []*both
	for i := range 12 {
		all = append(all, newBoth(t, 1+i%4, 1+i%3, 1+i%5))
	}
	for range 5000 {
		oneOf(r, all...).anything(r)
		oneOf(r, all...).counts()
	}
	for _, b := range all {
		b.stands()
	}
}

// TestAskingChangesNothing: nor does what is refused.
func TestAskingChangesNothing(t *testing.T) {
	r := rand.New(rand.NewSource(2005))
	for range 100 {
		b := newBoth(t, 1+r.Intn(5), 1+r.Intn(5), 1+r.Intn(5))
		for range 200 {
			b.anything(r)
			full := b.q.Len() == b.m.most
			for i, a := range b.q.All() {
				switch {
				case full:
					puts(t, b.q, api.ErrQueue, a, advice("x", a.Number))
				default:
					puts(t, b.q, api.ErrTwice, a, advice("x", a.Number))
				}
				if i > 0 {
					answers(t, b.q, false, a.Number)
				}
			}
			if full {
				puts(t, b.q, api.ErrQueue, advice("x", -5))
			}
			answers(t, b.q, false, -5)
			silent(t, b.q, false)
			b.stands()
		}
	}
}

// TestNothingMoreIsExported: the queue has the chapter's calls, and no others.
func TestNothingMoreIsExported(t *testing.T) {
	var names []string
	for m := range reflect.TypeFor[*saf.Queue]().Methods() {
		names = append(names, m.Name)
	}
	if want := []string{"All", "Answer", "Break", "Dead", "Gone", "Len", "Next", "Put", "Tick"}; !slices.Equal(names, want) {
		t.Errorf("20: the queue's calls are %q; must be %q", names, want)
	}
	for f := range reflect.TypeFor[saf.Queue]().Fields() {
		if f.IsExported() {
			t.Errorf("20: the queue's field %s is exported", f.Name)
		}
	}
}

// span is memory that a list or a text has, spare room too.
type span struct{ from, to uintptr }

func listSpan[T any](l []T) span {
	var one T
	from := uintptr(unsafe.Pointer(unsafe.SliceData(l)))
	return span{from, from + uintptr(cap(l))*unsafe.Sizeof(one)}
}

func textSpan(s string) span {
	from := uintptr(unsafe.Pointer(unsafe.StringData(s)))
	return span{from, from + uintptr(len(s))}
}

func nodeSpans(l []api.Node) []span {
	all := []span{listSpan(l)}
	for _, n := range l {
		all = append(append(all, textSpan(n.Value)), nodeSpans(n.Kids)...)
	}
	return all
}

func messageSpans(m api.Message) []span {
	all := []span{textSpan(m.MTI), listSpan(m.Fields)}
	for _, f := range m.Fields {
		all = append(append(all, textSpan(f.Value)), nodeSpans(f.Kids)...)
	}
	return all
}

func spans(a api.Advice) []span { return append(messageSpans(a.Message), messageSpans(a.Repeat)...) }

func allSpans(l []api.Advice) []span {
	all := []span{listSpan(l)}
	for _, a := range l {
		all = append(all, spans(a)...)
	}
	return all
}

// shared tells whether two of some spans have memory in common.
func shared(all ...[]span) bool {
	l := slices.DeleteFunc(slices.Concat(all...), func(s span) bool { return s.from == s.to })
	slices.SortFunc(l, func(a, b span) int { return cmp.Compare(a.from, b.from) })
	for i := 1; i < len(l); i++ {
		if l[i].from < l[i-1].to {
			return true
		}
	}
	return false
}

// roomy is an advice of memory of its own, with something behind each list in its array.
func roomy(a api.Advice) api.Advice {
	a.Message, a.Repeat = roomyMessage(a.Message), roomyMessage(a.Repeat)
	return a
}

func roomyMessage(m api.Message) api.Message {
	l := make([]api.Field, 0, len(m.Fields)+2)
	for _, f := range m.Fields {
		l = append(l, api.Field{Number: f.Number, Value: strings.Clone(f.Value), Kids: roomyNodes(f.Kids)})
	}
	return api.Message{MTI: strings.Clone(m.MTI), Fields: append(l, field(11, "behind"), field(37, "behind"))[:len(l)]}
}

func roomyNodes(l []api.Node) []api.Node {
	c := make([]api.Node, 0, len(l)+2)
	for _, n := range l {
		c = append(c, api.Node{Tag: n.Tag, Value: strings.Clone(n.Value), Kids: roomyNodes(n.Kids)})
	}
	return append(c, leaf(7, "behind"), leaf(8, "behind"))[:len(l)]
}

// behind is an advice with what stands behind its lists in their arrays, as a text.
func behind(a api.Advice) string {
	for _, m := range []*api.Message{&a.Message, &a.Repeat} {
		m.Fields = slices.Clone(m.Fields[:cap(m.Fields)])
		for i, f := range m.Fields {
			m.Fields[i].Kids = nodesBehind(f.Kids)
		}
	}
	return seen(a)
}

func nodesBehind(l []api.Node) []api.Node {
	c := slices.Clone(l[:cap(l)])
	for i, n := range c {
		c[i].Kids = nodesBehind(n.Kids)
	}
	return c
}

// scribble writes over advices, up to the ends of their arrays.
func scribble(all []api.Advice) {
	all = all[:cap(all)]
	for i, a := range all {
		scribbleMessage(a.Message)
		scribbleMessage(a.Repeat)
		all[i] = api.Advice{Link: -99, Number: -99, Message: of("scribbled"), Repeat: of("scribbled")}
	}
}

func scribbleMessage(m api.Message) {
	l := m.Fields[:cap(m.Fields)]
	for i := range l {
		scribbleNodes(l[i].Kids)
		l[i] = field(-99, "scribbled")
	}
}

func scribbleNodes(l []api.Node) {
	l = l[:cap(l)]
	for i := range l {
		scribbleNodes(l[i].Kids)
		l[i] = leaf(-99, "scribbled")
	}
}

// TestNewMemory: each time that an advice or a message is told it is memory of its own; and lists that stood in two places have become two.
func TestNewMemory(t *testing.T) {
	twice := []api.Node{inner(112, leaf(90, "x"))}
	m := of("0220", kids(48, twice...), kids(55, inner(1, twice...), inner(2, twice...)))
	for _, a := range []api.Advice{roomy(numbered(1)), roomy(numbered(2)), {Message: m, Repeat: m}} {
		q, other := made(t, 2, 1, 3), roomy(numbered(7))
		puts(t, q, api.OK, a, other)
		var out []api.Message
		lists := [][]api.Advice{q.All()}
		for range 3 {
			m, ok := q.Next(true)
			if !ok {
				t.Fatal("S3: nothing goes out")
			}
			out, lists = append(out, m), append(lists, q.All())
			q.Tick()
		}
		var told []span
		for _, m := range out {
			told = append(told, messageSpans(m)...)
		}
		for _, l := range lists {
			told = append(told, allSpans(l)...)
		}
		if shared(told) {
			t.Fatalf("P3: of %.300s memory is told twice", seen(a))
		}
		for _, given := range slices.Concat(spans(a), spans(other)) {
			if shared(told, []span{given}) {
				t.Fatalf("P3: of %.300s memory is told that was handed in", seen(a))
			}
		}
		runtime.KeepAlive(out) // memory that is let go of would be told again
		runtime.KeepAlive(lists)
	}
}

// TestNewGone: what Gone told once is not written into again, nor its spare room.
func TestNewGone(t *testing.T) {
	q := made(t, 1, 1, 1)
	var told []span
	var lists [][]int
	for n := range 200 {
		for i := range n % 5 {
			puts(t, q, api.OK, numbered(n*10+i))
			first(t, q, n*10+i)
			q.Break()
			silent(t, q, true)
		}
		l := q.Gone()
		told = append(told, listSpan(l))
		lists = append(lists, l)
		for i := range l[:cap(l)] {
			l[:cap(l)][i] = -n
		}
		for i, l := range lists {
			if slices.ContainsFunc(l[:cap(l)], func(k int) bool { return k != -i }) {
				t.Fatalf("P3: what Gone told became %d", l[:cap(l)])
			}
		}
	}
	if shared(told) {
		t.Error("P3: what Gone tells twice has memory in common")
	}
}

// TestWritingShowsNowhere: into what was handed in, and into what was told, spare room too; and nothing that was handed in is written into.
func TestWritingShowsNowhere(t *testing.T) {
	r := rand.New(rand.NewSource(2006))
	for range 200 {
		b := newBoth(t, 1+r.Intn(5), 1+r.Intn(3), 1+r.Intn(4))
		for range 100 {
			plain := some(r)
			a := roomy(plain)
			before := behind(a)
			if e := b.q.Put(a); e != b.m.put(plain) {
				t.Fatalf("S2: Put(%.300s) = %d", seen(a), e)
			}
			if behind(a) != before {
				t.Fatalf("P3: what was given became %.300s", behind(a))
			}
			scribble([]api.Advice{a})
			scribble(b.q.All())
			b.stands()
			m, ok := b.q.Next(true)
			if n, want := b.m.next(true); !message.Same(m, n) || ok != want {
				t.Fatalf("P3: behind writing Next tells %.300s, %v", seenMessage(m), ok)
			}
			scribbleMessage(m)
			b.stands()
			b.asksGone()
			b.tick()
			if r.Intn(3) == 0 {
				b.answer(r.Intn(8))
			}
		}
	}
}

// TestTextsAreNotKept: what becomes of their bytes later does not show.
func TestTextsAreNotKept(t *testing.T) {
	b := []byte("mti value leaf again other more")
	text := func(from, to int) string { return unsafe.String(&b[from], to-from) }
	a := api.Advice{
		Number:  2,
		Message: of(text(0, 3), field(2, text(4, 9)), kids(3, leaf(4, text(10, 14)))),
		Repeat:  of(text(15, 20), field(2, text(21, 26)), kids(3, leaf(4, text(27, 31)))),
	}
	want := roomy(a)
	q := made(t, 2, 1, 2)
	puts(t, q, api.OK, a)
	clear(b)
	stands(t, q, 0, want)
	sends(t, q, want.Message)
	q.Tick()
	sends(t, q, want.Repeat)
}

// heap is how many bytes are in use.
func heap() int {
	var m runtime.MemStats
	runtime.GC()
	runtime.ReadMemStats(&m)
	return int(m.HeapAlloc)
}

// long is an advice of many bytes.
func long(n int) api.Advice {
	a := numbered(n)
	a.Message.Fields = append(a.Message.Fields, field(60, strings.Repeat("3", 50_000)))
	a.Repeat.Fields = append(a.Repeat.Fields, field(60, strings.Repeat("4", 50_000)))
	return a
}

// TestNoMoreIsKept: of what was refused, answered, or given up.
func TestNoMoreIsKept(t *testing.T) {
	q := made(t, 200, 1, 1)
	before := heap()
	holds := func(what string, dead int) {
		t.Helper()
		if more := heap() - before; q.Len() != 1 || q.Dead() != dead || more > 500_000 {
			t.Errorf("P3: behind 200 advices, %s, of which one waits (%d), and %d were given up (%d), a queue keeps %d bytes", what, q.Len(), dead, q.Dead(), more)
		}
	}
	fill := func() {
		t.Helper()
		for n := range 199 {
			puts(t, q, api.OK, long(n+1))
		}
		puts(t, q, api.OK, numbered(0))
	}
	fill()
	for n := range 199 {
		q.Next(true)
		answers(t, q, true, n+1)
	}
	holds("answered", 0)
	for range 200 {
		puts(t, q, api.ErrTwice, advice(strings.Repeat("5", 50_000), 0))
	}
	holds("refused", 0)
	q.Next(true)
	answers(t, q, true, 0)
	fill()
	for range 200 {
		q.Next(true)
		q.Tick()
	}
	holds("given up", 199)
	runtime.KeepAlive(q)
}

// TestPlacesAreCleared: nor is the last one kept, in the place that it left.
func TestPlacesAreCleared(t *testing.T) {
	q := made(t, 3, 1, 1)
	before := heap()
	huge := func(n int) api.Advice {
		return api.Advice{Number: n, Message: of("0220", field(60, strings.Repeat("6", 1_000_000)))}
	}
	holds := func(what string) {
		t.Helper()
		if more := heap() - before; more > 500_000 {
			t.Errorf("P3: behind three advices, %s, of which %d wait, a queue keeps %d bytes", what, q.Len(), more)
		}
	}
	fill := func() {
		t.Helper()
		puts(t, q, api.OK, numbered(1), numbered(2), huge(3))
		q.Next(true)
	}
	fill()
	for n := range 3 {
		answers(t, q, true, n+1)
		q.Next(true)
	}
	holds("answered")
	puts(t, q, api.OK, numbered(4))
	holds("answered, and one more")
	q.Next(true)
	answers(t, q, true, 4)
	fill()
	for range 3 {
		q.Tick()
		q.Next(true)
	}
	stands(t, q, 3)
	holds("given up")
	runtime.KeepAlive(q)
}

// TestQueueStaysSmall: however many advices go through it.
func TestQueueStaysSmall(t *testing.T) {
	q := made(t, 100, 1, 1)
	before := heap()
	for n := range 300_000 {
		q.Put(numbered(n))
		q.Next(true)
		switch n % 3 {
		case 0:
			q.Tick()
		case 1:
			q.Answer(n)
		}
		if n%50 == 0 {
			q.Gone()
		}
	}
	if more := heap() - before; more > 1_000_000 {
		t.Errorf("20: behind 300000 advices a queue of at most 100 keeps %d bytes", more)
	}
	runtime.KeepAlive(q)
}
