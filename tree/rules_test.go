package tree_test

import (
	"cmp"
	"fmt"
	"math/rand"
	"slices"
	"strings"
	"sync"
	"testing"
	"unsafe"

	"turnstile/api"
	"turnstile/message"
	"turnstile/tree"
)

// What holds of all calls (P1 to P5).

func someDialects() []api.Dialect {
	l := []api.Dialect{{}, example(), rich(), ofAllFields(api.ASCII), {Name: "x", MTIEnc: 1, MapEnc: 1}}
	huge := example()
	huge.Fields, huge.Rules = make([]api.FieldSpec, 70000), make([]api.Rule, 70000)
	l = append(l, huge)
	r := rand.New(rand.NewSource(1210))
	for range 20 {
		d := rightDialect(r)
		l = append(l, d, bentDialect(r, d), bentDialect(r, bentDialect(r, d)))
	}
	return l
}

func someTexts() []string {
	_, parts := full()
	l := []string{"", "0", "0200", short, track, strings.Join(parts, ""), strings.Repeat("0", 9999), strings.Repeat("0", 10000), strings.Repeat("\xFF", 100000), "\x18\x00" + strings.Repeat("\xFF", 9000), "0200" + strings.Repeat("F", 9000), "٠٢٠٠"}
	r := rand.New(rand.NewSource(1211))
	for range 10 {
		l = append(l, bentBytes(r, track), textOf(r, api.ClassB, r.Intn(60)))
	}
	return l
}

func someMessages() []api.Message {
	m, _ := full()
	long := strings.Repeat("1", 70000)
	deep := []api.Node{leaf(90, "x")}
	for range 1000 {
		deep = []api.Node{inner(112, deep...)}
	}
	l := []api.Message{{}, m, of("0200"), of("0200", field(3, "000000"), field(11, "000042"), field(35, "1")), of(long, field(2, long)), of("0200", field(3, long), field(11, long)), of("1100", field(3, "12345"), kids(48, deep...), kids(55, deep...)), of("0200", slices.Repeat([]api.Field{field(3, "000000")}, 3000)...)}
	r := rand.New(rand.NewSource(1212))
	for range 10 {
		l = append(l, bentMessage(r, m), bentMessage(r, bentMessage(r, m)))
	}
	return l
}

func seenMessage(m api.Message) string { return fmt.Sprintf("%#v", m) }

// answers is what all calls answer, as texts.
func answers(d api.Dialect) []string {
	var l []string
	for _, b := range someTexts() {
		m, x := tree.Parse(d, b)
		spans, y := tree.Spans(d, b)
		l = append(l, fmt.Sprint(seenMessage(m), x, spans, y))
	}
	for _, m := range someMessages() {
		b, e, n := tree.Build(d, m)
		l = append(l, fmt.Sprintf("%q %d %d", b, e, n))
	}
	return l
}

// TestEveryCallAnswers: no call panics, and beside an error there is nothing.
func TestEveryCallAnswers(t *testing.T) {
	for _, d := range someDialects() {
		for _, b := range someTexts() {
			m, x := tree.Parse(d, b)
			l, y := tree.Spans(d, b)
			if x != y || x.At < 0 || x.At > len(b) {
				t.Errorf("P2: Parse tells %v, Spans %v", x, y)
			}
			if x.Code == api.OK && x != (api.Defect{}) {
				t.Errorf("P2: Parse tells %v, which is no defect", x)
			}
			if x.Code != api.OK && (m.MTI != "" || len(m.Fields) > 0 || len(l) > 0) {
				t.Errorf("P2: beside %v stand %v, %v", x, m, l)
			}
		}
		for _, m := range someMessages() {
			if b, e, n := tree.Build(d, m); e != api.OK && b != "" || e == api.OK && n != 0 {
				t.Errorf("P2: Build = %.60x, %d, %d", b, e, n)
			}
		}
	}
}

// span is memory that a list or a text has, spare room too.
type span struct{ from, to uintptr }

func listSpan[T any](l []T) span {
	var one T
	from := uintptr(unsafe.Pointer(unsafe.SliceData(l)))
	return span{from, from + uintptr(cap(l))*unsafe.Sizeof(one)}
}

func textSpan(s string) span {
	from := uintptr(unsafe.Pointer(unsafe.StringData(s)))
	return span{from, from + uintptr(len(s))}
}

// messageSpans are where a message's lists stand, and its texts of more than one byte (those of one may be the library's).
func messageSpans(m api.Message) []span {
	all := []span{textSpan(m.MTI), listSpan(m.Fields)}
	for _, f := range m.Fields {
		if len(f.Value) > 1 {
			all = append(all, textSpan(f.Value))
		}
		all = append(all, nodeSpans(f.Kids)...)
	}
	return all
}

func nodeSpans(l []api.Node) []span {
	if cap(l) == 0 {
		return nil
	}
	all := []span{listSpan(l)}
	for _, n := range l {
		if len(n.Value) > 1 {
			all = append(all, textSpan(n.Value))
		}
		all = append(all, nodeSpans(n.Kids)...)
	}
	return all
}

// shared tells whether two of some spans have memory in common.
func shared(all ...[]span) bool {
	l := slices.Concat(all...)
	slices.SortFunc(l, func(a, b span) int { return cmp.Compare(a.from, b.from) })
	for i := 1; i < len(l); i++ {
		if l[i].from < l[i-1].to {
			return true
		}
	}
	return false
}

func TestAnswersAreNewMemory(t *testing.T) {
	m, parts := full()
	d, text := rich(), strings.Join(parts, "")
	one, x := tree.Parse(d, text)
	two, _ := tree.Parse(d, text)
	types := []span{}
	for _, r := range d.Rules {
		types = append(types, textSpan(r.MTI))
	}
	if x != (api.Defect{}) || shared(messageSpans(one), messageSpans(two), []span{textSpan(text)}, types) {
		t.Errorf("P3: Parse answers memory that is another's (%v)", x)
	}
	l, _ := tree.Spans(d, text)
	again, _ := tree.Spans(d, text)
	if shared([]span{listSpan(l)}, []span{listSpan(again)}) {
		t.Error("P3: Spans answers memory that is another's")
	}
	written, e, _ := tree.Build(d, m)
	more, _, _ := tree.Build(d, m)
	if e != api.OK || shared(messageSpans(m), []span{textSpan(written)}, []span{textSpan(more)}) {
		t.Errorf("P3: Build answers memory that is another's (%d)", e)
	}
}

// roomy is a list with something in the room behind it.
func roomy[T any](l []T, behind T) []T {
	r := append(slices.Clone(l), behind, behind, behind)
	return r[:len(l)]
}

// behindLists is what stands in the room behind the lists of a dialect and a message.
func behindLists(d api.Dialect, m api.Message) string {
	s := fmt.Sprint(d.Fields[:cap(d.Fields)], d.Rules[:cap(d.Rules)], m.Fields[:cap(m.Fields)])
	for _, r := range d.Rules {
		s += fmt.Sprint(r.Must[:cap(r.Must)], r.May[:cap(r.May)])
	}
	for _, f := range m.Fields {
		s += fmt.Sprint(f.Kids[:cap(f.Kids)])
	}
	return s
}

// TestNothingIsWrittenInto: neither what is handed in nor what stands behind it.
func TestNothingIsWrittenInto(t *testing.T) {
	m, parts := full()
	text := strings.Join(parts, "")
	d := rich()
	d.Fields = roomy(d.Fields, api.FieldSpec{Number: 7, Size: 7})
	d.Rules = roomy(d.Rules, api.Rule{MTI: "behind"})
	for i, r := range d.Rules {
		d.Rules[i].Must, d.Rules[i].May = roomy(r.Must, 77), roomy(r.May, 78)
	}
	m.Fields = roomy(m.Fields, field(7, "behind"))
	for i, f := range m.Fields {
		m.Fields[i].Kids = roomy(f.Kids, leaf(7, "behind"))
	}
	before := behindLists(d, m)
	for _, b := range append(someTexts(), text) {
		tree.Parse(d, b)
		tree.Spans(d, b)
	}
	tree.Build(d, m)
	read, _ := tree.Parse(d, text)
	l := read.Fields[:cap(read.Fields)]
	for i := range l {
		l[i] = field(-99, "scribbled")
	}
	if after := behindLists(d, m); after != before {
		t.Errorf("P3: what was given became %.300s", after)
	}
}

// TestSameAgain: the same arguments give the same answers, whatever was asked between, and by whom: nothing is kept.
func TestSameAgain(t *testing.T) {
	all := func() (l []string) {
		for _, d := range someDialects() {
			l = append(l, answers(d)...)
		}
		return l
	}
	first := all()
	var group sync.WaitGroup
	for range 4 {
		group.Go(func() {
			if !slices.Equal(first, all()) {
				t.Error("P4: the same calls answer another thing once more")
			}
		})
	}
	group.Wait()
}

// TestLaterChangesDoNotShow: what was answered stays, whatever becomes of what was handed in.
func TestLaterChangesDoNotShow(t *testing.T) {
	d := rich()
	m, parts := full()
	text := []byte(strings.Join(parts, ""))
	read, _ := tree.Parse(d, unsafe.String(&text[0], len(text)))
	b, _, _ := tree.Build(d, m)
	clear(text)
	clear(m.Fields)
	clear(d.Fields)
	clear(d.Rules)
	want, _ := full()
	if !message.Same(read, want) || b != strings.Join(parts, "") {
		t.Errorf("P3: what was answered became %v, %x", read, b)
	}
}

// TestNothingOfEitherKind: lists of nothing, nil or empty, count alike.
func TestNothingOfEitherKind(t *testing.T) {
	d := example()
	d.Rules = append(d.Rules, api.Rule{MTI: "0800", Must: []int{}, May: []int{}}, api.Rule{MTI: "0810"})
	for _, mti := range []string{"0800", "0810"} {
		b := mti + "0000000000000000"
		writes(t, d, api.Message{MTI: mti}, b, api.OK, 0)
		writes(t, d, api.Message{MTI: mti, Fields: []api.Field{}}, b, api.OK, 0)
		tellsOf(t, d, b, told{m: of(mti)})
	}
	m := of("0200", field(3, "000000"), field(11, "000042"))
	m.Fields[0].Kids = []api.Node{}
	writes(t, d, m, short, api.OK, 0)
	s := api.FieldSpec{Number: 55, Class: api.ClassT, Enc: api.BINARY, Digits: 2, LenEnc: api.BCD, Size: 9}
	for _, l := range [][]api.Node{nil, {}} {
		writes(t, one(s), of("0200", kids(55, inner(112, l...))), head(s)+"\x02\x70\x00", api.OK, 0)
	}
}
