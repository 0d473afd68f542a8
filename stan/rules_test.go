package stan_test

import (
	"cmp"
	"fmt"
	"math/rand"
	"runtime"
	"slices"
	"strings"
	"sync"
	"testing"
	"unsafe"

	"turnstile/api"
	"turnstile/stan"
)

// What holds of all calls (P1 to P5).

// answers is what many calls answer, as texts.
func answers() []string {
	var l []string
	add := func(args ...any) { l = append(l, fmt.Sprint(args...)) }
	r := rand.New(rand.NewSource(1807))
	for _, k := range edges {
		s, e := stan.Field(k)
		u, f := stan.Reference(k, k)
		v, g := stan.Reference(848063100, k)
		add(s, e, u, f, v, g)
		n, e := stan.New(k)
		add(n != nil, e)
		for i := 0; n != nil && i < 100; i++ {
			k, e := n.Take()
			add(k, e, n.Free(r.Intn(100)), n.Taken(r.Intn(100)), n.Len())
		}
		x, e := stan.NewEcho(k, 11)
		add(x != nil, e)
	}
	x, _ := stan.NewEcho(someFields(r)...)
	for range 300 {
		m, ok := x.Restore(r.Intn(9), someMessage(r))
		add(x.Save(r.Intn(9), someMessage(r)), seen(m), ok, x.Drop(r.Intn(20)), x.Len())
	}
	return l
}

// TestSameAgain: every call answers, and the same calls answer the same, whatever was asked between, and by whom.
func TestSameAgain(t *testing.T) {
	first := answers()
	var group sync.WaitGroup
	for range 4 {
		group.Go(func() {
			if !slices.Equal(first, answers()) {
				t.Error("P4: the same calls answer another thing once more")
			}
		})
	}
	group.Wait()
}

// TestObjectsAreTheirOwn: what is done with one does not show in another.
func TestObjectsAreTheirOwn(t *testing.T) {
	r := rand.New(rand.NewSource(1808))
	var numbers []*pair
	var echoes []*both
	for i := range 8 {
		numbers = append(numbers, newPair(t, 1+60*(i%3)))
		echoes = append(echoes, newBoth(t, []int{11, 37, 55, 7}[:1+i%4]...))
	}
	for range 5000 {
		oneOf(r, numbers...).anything(r, r.Intn(3) > 0)
		oneOf(r, echoes...).anything(r)
	}
	for i := range 8 {
		numbers[i].stands()
		for k := range 10 {
			echoes[i].restore(k, of("0210"))
		}
	}
}

// TestNothingBesideAnError: nor a false.
func TestNothingBesideAnError(t *testing.T) {
	for _, k := range edges {
		if s, e := stan.Field(k); e != api.OK && s != "" {
			t.Errorf("P2: Field(%d) = %q beside %d", k, s, e)
		}
		for _, moment := range edges {
			if s, e := stan.Reference(moment, k); (e == api.OK) != (len(s) == 12) || e != api.OK && s != "" {
				t.Errorf("P2: Reference(%d, %d) = %q beside %d", moment, k, s, e)
			}
		}
		if n, e := stan.New(k); (e == api.OK) != (n != nil) {
			t.Errorf("P2: New(%d) is %d, and numbers: %v", k, e, n != nil)
		}
		if x, e := stan.NewEcho(k); (e == api.OK) != (x != nil) {
			t.Errorf("P2: NewEcho(%d) is %d, and an echo: %v", k, e, x != nil)
		}
	}
}

// TestFieldsOfAnEchoAreItsOwn: the list that was handed in may become another one, and is not written into.
func TestFieldsOfAnEchoAreItsOwn(t *testing.T) {
	l := []int{37, 11, 55, -7, -8}
	e := echoOf(t, l[:3]...)
	saves(t, e, 1, every("0200", "old"), api.OK)
	e.Restore(1, every("0210", "new"))
	if !slices.Equal(l, []int{37, 11, 55, -7, -8}) {
		t.Errorf("P3: the fields became %v", l)
	}
	l[0], l[1], l[2] = 2, 3, 4
	restores(t, e, 1, of("0210"), of("0210", field(11, "old"), field(37, "old"), field(55, "old")), true)
	saves(t, e, 2, every("0200", "old"), api.OK)
	restores(t, e, 2, of("0210"), of("0210", field(11, "old"), field(37, "old"), field(55, "old")), true)
	restores(t, e, 2, of("0210", field(2, "a"), field(11, "b")), of("0210", field(2, "a"), field(11, "old"), field(37, "old"), field(55, "old")), true)
}

// span is memory that a list or a text has, spare room too.
type span struct{ from, to uintptr }

func listSpan[T any](l []T) span {
	var one T
	from := uintptr(unsafe.Pointer(unsafe.SliceData(l)))
	return span{from, from + uintptr(cap(l))*unsafe.Sizeof(one)}
}

func textSpan(s string) span {
	from := uintptr(unsafe.Pointer(unsafe.StringData(s)))
	return span{from, from + uintptr(len(s))}
}

func nodeSpans(l []api.Node) []span {
	all := []span{listSpan(l)}
	for _, n := range l {
		all = append(append(all, textSpan(n.Value)), nodeSpans(n.Kids)...)
	}
	return all
}

func messageSpans(m api.Message) []span {
	all := []span{textSpan(m.MTI), listSpan(m.Fields)}
	for _, f := range m.Fields {
		all = append(append(all, textSpan(f.Value)), nodeSpans(f.Kids)...)
	}
	return all
}

// shared tells whether two of some spans have memory in common.
func shared(all ...[]span) bool {
	l := slices.DeleteFunc(slices.Concat(all...), func(s span) bool { return s.from == s.to })
	slices.SortFunc(l, func(a, b span) int { return cmp.Compare(a.from, b.from) })
	for i := 1; i < len(l); i++ {
		if l[i].from < l[i-1].to {
			return true
		}
	}
	return false
}

// roomy is a message of memory of its own, with something behind each list in its array.
func roomy(m api.Message) api.Message {
	l := make([]api.Field, 0, len(m.Fields)+2)
	for _, f := range m.Fields {
		l = append(l, api.Field{Number: f.Number, Value: strings.Clone(f.Value), Kids: roomyNodes(f.Kids)})
	}
	return api.Message{MTI: strings.Clone(m.MTI), Fields: append(l, field(11, "behind"), field(37, "behind"))[:len(l)]}
}

func roomyNodes(l []api.Node) []api.Node {
	c := make([]api.Node, 0, len(l)+2)
	for _, n := range l {
		c = append(c, api.Node{Tag: n.Tag, Value: strings.Clone(n.Value), Kids: roomyNodes(n.Kids)})
	}
	return append(c, leaf(7, "behind"), leaf(8, "behind"))[:len(l)]
}

// behind is a message with what stands behind its lists in their arrays, as a text.
func behind(m api.Message) string {
	c := api.Message{MTI: m.MTI, Fields: slices.Clone(m.Fields[:cap(m.Fields)])}
	for i, f := range c.Fields {
		c.Fields[i].Kids = nodesBehind(f.Kids)
	}
	return seen(c)
}

func nodesBehind(l []api.Node) []api.Node {
	c := slices.Clone(l[:cap(l)])
	for i, n := range c {
		c[i].Kids = nodesBehind(n.Kids)
	}
	return c
}

// scribble writes over a message, up to the ends of its arrays.
func scribble(m api.Message) {
	l := m.Fields[:cap(m.Fields)]
	for i := range l {
		scribbleNodes(l[i].Kids)
		l[i] = field(-99, "scribbled")
	}
}

func scribbleNodes(l []api.Node) {
	l = l[:cap(l)]
	for i := range l {
		scribbleNodes(l[i].Kids)
		l[i] = leaf(-99, "scribbled")
	}
}

// TestMessagesAreNewMemory: neither what was handed in, nor what is kept, nor another answer, with true and with false.
func TestMessagesAreNewMemory(t *testing.T) {
	r := rand.New(rand.NewSource(1809))
	for range 100 {
		e := echoOf(t, someFields(r)...)
		old := roomy(wholeMessage(r))
		saves(t, e, 1, old, api.OK)
		for _, m := range []api.Message{roomy(wholeMessage(r)), roomy(oneOf(r, brokenMessages()...)), old} {
			one, _ := e.Restore(1, m)
			two, _ := e.Restore(1, m)
			three, _ := e.Restore(2, m)
			given := messageSpans(m)
			if m.Fields != nil && unsafe.SliceData(m.Fields) != unsafe.SliceData(old.Fields) {
				given = append(given, messageSpans(old)...)
			}
			if shared(messageSpans(one), messageSpans(two), messageSpans(three), given) {
				t.Fatal("P3: Restore answers memory that is another's")
			}
		}
	}
	twice := []api.Node{inner(112, leaf(90, "x"))} // lists that stand in two places become two
	e := echoOf(t, 2, 3)
	saves(t, e, 1, of("0200", kids(2, twice...), kids(3, twice...)), api.OK)
	for number := 1; number <= 2; number++ {
		got, _ := e.Restore(number, of("0210", kids(4, twice...), kids(5, inner(1, twice...), inner(2, twice...))))
		if shared(messageSpans(got)) {
			t.Error("P3: two lists of an answer share memory")
		}
	}
}

// TestWritingShowsNowhere: into what was handed in, and into what came, spare room too; and nothing that was handed in is written into.
func TestWritingShowsNowhere(t *testing.T) {
	r := rand.New(rand.NewSource(1810))
	for range 200 {
		e := echoOf(t, someFields(r)...)
		plainOld, plain := wholeMessage(r), someMessage(r)
		old, m := roomy(plainOld), roomy(plain)
		beforeOld, before := behind(old), behind(m)
		saves(t, e, 1, old, api.OK)
		want, ok := e.Restore(1, m)
		text := seen(want)
		e.Save(1, m)
		e.Restore(2, m)
		if behind(old) != beforeOld || behind(m) != before {
			t.Fatalf("P3: what was given became %.300s, %.300s", behind(old), behind(m))
		}
		scribble(old)
		scribble(m)
		if seen(want) != text {
			t.Fatal("P3: what Restore answered changes with what was handed in")
		}
		scribble(want)
		again, _ := e.Restore(1, roomy(plain))
		if seen(again) != text {
			t.Fatalf("P3: Restore, %v, answers %.300s; ahead of being written over %.300s", ok, seen(again), text)
		}
	}
}

// TestTextsAreNotKept: what becomes of the bytes of a value later does not show.
func TestTextsAreNotKept(t *testing.T) {
	b := []byte("000007")
	e := echoOf(t, 11)
	saves(t, e, 1, of("0200", field(11, unsafe.String(&b[0], len(b)))), api.OK)
	clear(b)
	restores(t, e, 1, of("0210"), of("0210", field(11, "000007")), true)
}

// TestNothingOfEitherKind: lists of nothing, nil or empty, count alike.
func TestNothingOfEitherKind(t *testing.T) {
	e := echoOf(t, 11)
	saves(t, e, 1, of("0200", api.Field{Number: 11, Value: "x", Kids: []api.Node{}}), api.OK)
	saves(t, e, 2, api.Message{MTI: "0200", Fields: []api.Field{}}, api.OK)
	saves(t, e, 3, of("0200", kids(11, api.Node{Tag: 1, Value: "y", Kids: []api.Node{}})), api.OK)
	for _, m := range []api.Message{of("0210"), {MTI: "0210", Fields: []api.Field{}}} {
		restores(t, e, 1, m, of("0210", field(11, "x")), true)
		restores(t, e, 2, m, of("0210"), true)
		restores(t, e, 3, m, of("0210", kids(11, leaf(1, "y"))), true)
		restores(t, e, 4, m, of("0210"), false)
	}
}

// heap is how many bytes are in use.
func heap() int {
	var m runtime.MemStats
	runtime.GC()
	runtime.ReadMemStats(&m)
	return int(m.HeapAlloc)
}

// TestNoMoreIsKept: the echo's fields alone, until they are dropped.
func TestNoMoreIsKept(t *testing.T) {
	e := echoOf(t, 11)
	before := heap()
	for n := 1; n <= 100; n++ {
		long := strings.Repeat("3", 100_000)
		saves(t, e, n, of("0200", field(2, long), field(11, long[:6]), kids(55, leaf(1, long))), api.OK)
		e.Restore(n, of("0210", field(11, long), field(60, long)))
	}
	if more := heap() - before; more > 500_000 {
		t.Errorf("P3: of 100 messages with 6 bytes each that are an echo's %d bytes are kept", more)
	}
	for n := 101; n <= 200; n++ {
		saves(t, e, n, of("0200", field(11, strings.Repeat("4", 100_000))), api.OK)
		drops(t, e, n, true)
	}
	if more := heap() - before; more > 500_000 {
		t.Errorf("P3: of 100 messages that were dropped %d bytes are kept", more)
	}
	runtime.KeepAlive(e)
}

// TestNumbersStaySmall: however many there are and are dealt.
func TestNumbersStaySmall(t *testing.T) {
	before := heap()
	n := made(t, 999999)
	for i := range 3_000_000 {
		k, _ := n.Take()
		if i%3 > 0 {
			n.Free(k)
		}
	}
	if more := heap() - before; more > 1_000_000 {
		t.Errorf("18.1: numbers keep %d bytes", more)
	}
	runtime.KeepAlive(n)
}
