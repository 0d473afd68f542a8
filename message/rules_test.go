package message_test

import (
	"cmp"
	"fmt"
	"slices"
	"strings"
	"testing"
	"unsafe"

	"turnstile/api"
	"turnstile/message"
)

// texts are what all calls are asked with: types, codes, numbers, stamps, printed messages and none of these.
func texts() []string {
	_, s := printed()
	return []string{"", "0100", "1421", "0110", "00", "1a", "000009", "0301000000", "x", "\x00\xFF", "٣٣", s, s[:20], strings.Repeat("0", 70000), strings.Repeat("\n", 1000), "0100\n" + strings.Repeat(".", 70000), "0100\n" + strings.Repeat("9", 70000) + "=", "0100\n2=" + strings.Repeat("\\0A", 30000) + "\n"}
}

func ruled() []api.Message {
	long := strings.Repeat("1", 70000)
	l := append(someMessages(1122, 20), rows(1123, 20)...)
	return append(l,
		of(long, field(2, long)), of("0200", field(7, long), field(11, long), field(32, long)), of("0100", kids(2, nested(1000)...)), of("0100", slices.Repeat([]api.Field{field(2, "x")}, 3000)...),
		of("0200", field(7, "1"), field(11, "1"), kids(41, nested(8)...), kids(42, leaves(500)...)),
	)
}

// answers is what all calls that take a message answer, as texts.
func answers(m api.Message, s string) []string {
	var l []string
	add := func(args ...any) { l = append(l, fmt.Sprintf("%q", args)) }
	for _, n := range edges {
		v, ok := message.Get(m, n)
		add(v, ok)
	}
	with, e := message.With(m, kids(55, leaf(1, s), inner(2, leaf(3, ""))))
	add(seen(with), e)
	add(seen(message.Without(m, edges...)), seen(message.Keep(m, edges...)), seen(message.Copy(m)))
	add(message.Same(m, with), message.Key(m, len(s)), message.Whole(m))
	reply, e := message.Reply(m, s)
	original, g := message.Original(m)
	reversal, h := message.Reversal(m, s, s)
	add(seen(reply), e, original, g, seen(reversal), h)
	print, e := message.Print(m)
	add(print, e)
	return l
}

// answersOf is what all calls that take a text answer, as texts.
func answersOf(s string) []string {
	a, e := message.Answer(s)
	b, f := message.Again(s)
	c, g := message.Told(s)
	d, h := message.In(s, 1)
	m, i, line := message.Read(s)
	return []string{fmt.Sprint(message.Right(s), message.Class(s), message.Function(s), a, e, b, f, c, g, d, h, seen(m), i, line)}
}

// TestEveryCallAnswers: no call panics, and beside an error, or a false, there is nothing.
func TestEveryCallAnswers(t *testing.T) {
	nothing := func(what string, m api.Message, e api.Errno) {
		if e != api.OK && seen(m) != seen(api.Message{}) {
			t.Errorf("P2: %s answers %s beside %d", what, seen(m), e)
		}
	}
	empty := func(what, s string, e api.Errno) {
		if e != api.OK && s != "" {
			t.Errorf("P2: %s answers %q beside %d", what, s, e)
		}
	}
	for _, s := range texts() {
		answersOf(s)
		for _, v := range edges {
			a, e := message.In(s, v)
			empty("In", a, e)
		}
		m, e, line := message.Read(s)
		if nothing("Read", m, e); (line == 0) != (e == api.OK) || line < 0 || line > strings.Count(s, "\n")+1 {
			t.Errorf("P2: Read answers %d, %d", e, line)
		}
		for _, m := range ruled() {
			for _, n := range edges {
				w, e := message.With(m, field(n, s))
				nothing("With", w, e)
			}
			r, e := message.Reply(m, s)
			nothing("Reply", r, e)
			r, e = message.Reversal(m, s, "0301000000")
			nothing("Reversal", r, e)
			o, e := message.Original(m)
			empty("Original", o, e)
			p, e := message.Print(m)
			empty("Print", p, e)
		}
	}
	deep := of("0100", kids(2, nested(1<<16)...))
	if message.Whole(deep) || !message.Same(deep, message.Copy(deep)) {
		t.Error("G3: Copy of nodes that are nested deep is another")
	}
}

// span is memory that a list or a text has, spare room too.
type span struct{ from, to uintptr }

func listSpan[T any](l []T) span {
	var one T
	from := uintptr(unsafe.Pointer(unsafe.SliceData(l)))
	return span{from, from + uintptr(cap(l))*unsafe.Sizeof(one)}
}

func textSpan(s string) span {
	from := uintptr(unsafe.Pointer(unsafe.StringData(s)))
	return span{from, from + uintptr(len(s))}
}

func textSpans(texts ...string) []span {
	var l []span
	for _, s := range texts {
		l = append(l, textSpan(s))
	}
	return l
}

func nodeSpans(l []api.Node) []span {
	all := []span{listSpan(l)}
	for _, n := range l {
		all = append(append(all, textSpan(n.Value)), nodeSpans(n.Kids)...)
	}
	return all
}

func messageSpans(m api.Message) []span {
	all := []span{textSpan(m.MTI), listSpan(m.Fields)}
	for _, f := range m.Fields {
		all = append(append(all, textSpan(f.Value)), nodeSpans(f.Kids)...)
	}
	return all
}

// shared tells whether two of some spans have memory in common.
func shared(all ...[]span) bool {
	l := slices.DeleteFunc(slices.Concat(all...), func(s span) bool { return s.from == s.to })
	slices.SortFunc(l, func(a, b span) int { return cmp.Compare(a.from, b.from) })
	for i := 1; i < len(l); i++ {
		if l[i].from < l[i-1].to {
			return true
		}
	}
	return false
}

// fresh is a message of memory of its own: in one of literals the same texts would stand in many places.
func fresh(m api.Message) api.Message {
	c := api.Message{MTI: strings.Clone(m.MTI)}
	for _, f := range m.Fields {
		c.Fields = append(c.Fields, freshField(f))
	}
	return c
}

func freshField(f api.Field) api.Field {
	return api.Field{Number: f.Number, Value: strings.Clone(f.Value), Kids: freshNodes(f.Kids)}
}

func freshNodes(l []api.Node) []api.Node {
	var c []api.Node
	for _, n := range l {
		c = append(c, api.Node{Tag: n.Tag, Value: strings.Clone(n.Value), Kids: freshNodes(n.Kids)})
	}
	return c
}

func TestMessagesAreNewMemory(t *testing.T) {
	nodes := []api.Node{leaf(1, "ab"), inner(112, leaf(90, "abc"), inner(112, leaf(90, "d"), leaf(3, "")))}
	m := fresh(of("0200", field(2, "4111"), field(7, "0229123456"), field(11, "12"), kids(41, nodes...), kids(49, nodes...), kids(55, nodes...), field(90, "x"), field(128, "yy")))
	roomy := fresh(m)
	roomy.Fields = append(slices.Grow(roomy.Fields, 9), field(128, "behind"))[:len(m.Fields)]
	f, code, number, stamp := freshField(kids(60, nodes...)), strings.Clone("14"), strings.Clone("000009"), strings.Clone("0301000000")
	text, _ := message.Print(m)
	for name, call := range map[string]func(m api.Message) (api.Message, api.Errno){
		"With a field more": func(m api.Message) (api.Message, api.Errno) { return message.With(m, f) },
		"With another": func(m api.Message) (api.Message, api.Errno) {
			return message.With(m, api.Field{Number: 41, Kids: f.Kids})
		},
		"With a value": func(m api.Message) (api.Message, api.Errno) {
			return message.With(m, api.Field{Number: 3, Value: code})
		},
		"Without":  func(m api.Message) (api.Message, api.Errno) { return message.Without(m, 2), 0 },
		"Keep":     func(m api.Message) (api.Message, api.Errno) { return message.Keep(m, 2, 41, 55, 128), 0 },
		"Copy":     func(m api.Message) (api.Message, api.Errno) { return message.Copy(m), 0 },
		"Reply":    func(m api.Message) (api.Message, api.Errno) { return message.Reply(m, code) },
		"Reversal": func(m api.Message) (api.Message, api.Errno) { return message.Reversal(m, number, stamp) },
		"Read": func(m api.Message) (api.Message, api.Errno) {
			c, e, _ := message.Read(text)
			return c, e
		},
	} {
		for _, o := range []api.Message{m, roomy} {
			one, e := call(o)
			two, _ := call(o)
			given := append(messageSpans(o), nodeSpans(f.Kids)...)
			if e != api.OK || len(one.Fields) < 3 || shared(messageSpans(one), messageSpans(two), given, textSpans(code, number, stamp, text)) {
				t.Errorf("P3: %s answers memory that is another's", name)
			}
		}
	}
	twice := []api.Node{inner(112, leaf(90, "x"))}
	m = of("0800", kids(2, twice...), kids(3, twice...), kids(4, inner(112, twice...), inner(112, twice...)))
	for _, got := range []api.Message{message.Copy(m), message.Keep(m, 2, 3, 4), message.Without(m, 9)} {
		if seen(got) != seen(m) || shared(messageSpans(got)) {
			t.Error("P3: two lists of an answer share memory")
		}
	}
}

func TestTextsAreNewMemory(t *testing.T) {
	mti, value := strings.Clone("0101"), strings.Clone("value")
	m := of(mti, field(7, value), field(11, value), field(41, value))
	var l []string
	for range 2 {
		for _, call := range []func(string) (string, api.Errno){message.Answer, message.Again, message.Told} {
			s, _ := call(mti)
			l = append(l, s)
		}
		in, _ := message.In(mti, 0)
		get, _ := message.Get(m, 7)
		k := message.Key(m, 0)
		p, _ := message.Print(m)
		empty, _ := message.Print(of(mti))
		l = append(l, in, get, k.Number, k.Stamp, k.Terminal, p, empty)
	}
	if slices.Contains(l, "") || shared(textSpans(l...), textSpans(mti, value)) {
		t.Errorf("P3: %q are not new memory", l)
	}
}

// roomyNodes is nodes with something behind each list in its array.
func roomyNodes(l []api.Node) []api.Node {
	c := make([]api.Node, 0, len(l)+2)
	for _, n := range l {
		c = append(c, api.Node{Tag: n.Tag, Value: n.Value, Kids: roomyNodes(n.Kids)})
	}
	return append(c, leaf(7, "behind"), leaf(8, "behind"))[:len(l)]
}

func roomyMessage(m api.Message) api.Message {
	c := api.Message{MTI: m.MTI, Fields: make([]api.Field, 0, len(m.Fields)+3)}
	for _, f := range m.Fields {
		c.Fields = append(c.Fields, api.Field{Number: f.Number, Value: f.Value, Kids: roomyNodes(f.Kids)})
	}
	return api.Message{MTI: m.MTI, Fields: append(c.Fields, field(7, "behind"), kids(8, leaves(1)...))[:len(m.Fields)]}
}

// behind is a message with what stands behind its lists in their arrays.
func behind(m api.Message) string {
	c := api.Message{MTI: m.MTI, Fields: slices.Clone(m.Fields[:cap(m.Fields)])}
	for i, f := range c.Fields {
		c.Fields[i].Kids = nodesBehind(f.Kids)
	}
	return seen(c)
}

func nodesBehind(l []api.Node) []api.Node {
	c := slices.Clone(l[:cap(l)])
	for i, n := range c {
		c[i].Kids = nodesBehind(n.Kids)
	}
	return c
}

// scribble writes over a message, up to the ends of its arrays.
func scribble(m api.Message) {
	l := m.Fields[:cap(m.Fields)]
	for i := range l {
		scribbleNodes(l[i].Kids)
		l[i] = field(-99, "scribbled")
	}
}

func scribbleNodes(l []api.Node) {
	for i := range l[:cap(l)] {
		n := &l[:cap(l)][i]
		scribbleNodes(n.Kids)
		*n = leaf(-99, "scribbled")
	}
}

func TestArgumentsStay(t *testing.T) {
	for _, m := range ruled() {
		o, f := roomyMessage(m), roomyMessage(of("", kids(11, leaf(1, "a"), inner(2, leaf(3, "b")))))
		numbers := append(slices.Clone(told), -7, -8)[:len(told)]
		before, beforeField := behind(o), behind(f)
		answers(o, "00")
		with, _ := message.With(o, f.Fields[0])
		reply, _ := message.Reply(o, "00")
		reversal, _ := message.Reversal(o, "000009", "0301000000")
		for _, c := range []api.Message{with, reply, reversal, message.Copy(o), message.Keep(o, numbers...), message.Without(o, numbers...)} {
			scribble(c)
		}
		if behind(o) != before || behind(f) != beforeField || !slices.Equal(numbers[:len(told)+2], append(slices.Clone(told), -7, -8)) {
			t.Fatalf("P3: what was given became %.300s, %.300s, %v", behind(o), behind(f), numbers)
		}
	}
}

// TestSameAgain: the same arguments give the same answers, whatever was asked between: nothing is kept.
func TestSameAgain(t *testing.T) {
	every := func() (l []string) {
		for _, s := range []string{"00", "000009", ""} {
			for _, m := range ruled() {
				l = append(l, answers(m, s)...)
			}
		}
		for _, s := range texts() {
			l = append(l, answersOf(s)...)
		}
		return l
	}
	one := every()
	for range 2 {
		if !slices.Equal(one, every()) {
			t.Fatal("P4: the same calls answer another thing once more")
		}
	}
}

// TestNothingOfEitherKind: lists of nothing, nil or empty, count alike.
func TestNothingOfEitherKind(t *testing.T) {
	none := of("0200", field(2, "x"), field(7, "1"), field(11, "1"), kids(41, leaf(1, "y"), leaf(2, "")))
	empty := fresh(none)
	for i := range 3 {
		empty.Fields[i].Kids = []api.Node{}
	}
	for i := range empty.Fields[3].Kids {
		empty.Fields[3].Kids[i].Kids = []api.Node{}
	}
	if !slices.Equal(answers(none, "00"), answers(empty, "00")) || !message.Same(none, empty) || !message.Whole(empty) {
		t.Error("P5: nil and empty lists of nodes do not count alike")
	}
	if !slices.Equal(answers(of("0100"), "00"), answers(api.Message{MTI: "0100", Fields: []api.Field{}}, "00")) {
		t.Error("P5: nil and empty lists of fields do not count alike")
	}
}
