package grammar_test

import (
	"cmp"
	"fmt"
	"math/rand"
	"slices"
	"strings"
	"testing"
	"unsafe"

	"turnstile/api"
	"turnstile/grammar"
)

// someDialects are right ones and wrong ones, small and great.
func someDialects() []api.Dialect {
	l := []api.Dialect{{}, example(), full(0), full(1)}
	long := example()
	long.Name = strings.Repeat("a", 100000)
	long.Fields = slices.Repeat(long.Fields, 300)
	long.Rules = slices.Repeat(long.Rules, 300)
	long.Rules[0].Must = slices.Repeat([]int{3, -3, 64}, 300)
	l = append(l, long)
	for _, n := range edges {
		l = append(l, api.Dialect{Name: "x", Version: n, MTIEnc: n, MapEnc: n, MAC: n, Fields: []api.FieldSpec{{Number: n, Class: n, Enc: n, Digits: n, LenEnc: n, Size: n}}, Rules: []api.Rule{{MTI: "0200", Must: []int{n}, May: []int{n, n}}}})
	}
	r := rand.New(rand.NewSource(1014))
	for range 10 {
		d := rightDialect(r)
		l = append(l, d, bent(r, bent(r, d)))
	}
	return l
}

func someMessages() []api.Message {
	long := strings.Repeat("1", 12000)
	l := []api.Message{
		{}, message("0200"), message("x"), message(long, field(3, long)), message("0200", field(3, "000000"), tag), message("1200", field(3, "000000"), tag),
		message("0200", field(3, "000000"), kids(48, leaf(1, "ab"), leaf(2, "")), tag), message("0800", kids(48, inner(112, inner(112, leaf(90, "abc"))), leaf(1, long))),
		message("0200", api.Field{Number: 3, Value: "x", Kids: []api.Node{leaf(-1, "y")}}, tag, tag),
	}
	var many []api.Field
	for _, n := range edges {
		many = append(many, field(n, "1"))
	}
	l = append(l, message("0200", many...), message("0800", slices.Repeat(many, 20)...))
	r := rand.New(rand.NewSource(1015))
	for range 10 {
		d := rightDialect(r)
		l = append(l, wholeMessage(r, d), bentMessage(r, d, wholeMessage(r, d)))
	}
	return l
}

// answers is what all calls answer of a dialect and a message, as texts.
func answers(d api.Dialect, m api.Message) []string {
	e, at := grammar.Right(d)
	f, n := grammar.Fits(d, m)
	rule, ok := grammar.Rule(d, m.MTI)
	most, g := grammar.Most(d, m.MTI)
	l := []string{fmt.Sprint(e, at, f, n, rule, ok, most, g), fmt.Sprint(grammar.Cut(d, m))}
	for _, x := range m.Fields {
		s, ok := grammar.Spec(d, x.Number)
		l = append(l, fmt.Sprint(s, ok, grammar.Value(s, x)))
	}
	return l
}

// TestEveryCallAnswers: no call panics, and beside an error, or a false, there is nothing.
func TestEveryCallAnswers(t *testing.T) {
	for _, d := range someDialects() {
		if e, at := grammar.Right(d); e == api.OK && at != 0 || at < 0 || at > max(len(d.Fields), len(d.Rules)) {
			t.Errorf("P2: Right answers %d, %d", e, at)
		}
		for _, n := range edges {
			if s, ok := grammar.Spec(d, n); !ok && s != (api.FieldSpec{}) {
				t.Errorf("P2: Spec answers %v beside false", s)
			}
		}
		for _, m := range someMessages() {
			answers(d, m)
			if r, ok := grammar.Rule(d, m.MTI); !ok && !sameRule(r, api.Rule{}) {
				t.Errorf("P2: Rule answers %v beside false", r)
			}
			if n, e := grammar.Most(d, m.MTI); e != api.OK && n != 0 {
				t.Errorf("P2: Most answers %d beside %d", n, e)
			}
			if e, n := grammar.Fits(d, m); (e == api.OK || e == api.ErrMTI) && n != 0 {
				t.Errorf("P2: Fits answers %d beside %d", n, e)
			}
		}
	}
}

// span is memory that a list or a text has, spare room too.
type span struct{ from, to uintptr }

func listSpan[T any](l []T) span {
	var one T
	from := uintptr(unsafe.Pointer(unsafe.SliceData(l)))
	return span{from, from + uintptr(cap(l))*unsafe.Sizeof(one)}
}

func textSpan(s string) span {
	from := uintptr(unsafe.Pointer(unsafe.StringData(s)))
	return span{from, from + uintptr(len(s))}
}

func nodeSpans(l []api.Node) []span {
	all := []span{listSpan(l)}
	for _, n := range l {
		all = append(append(all, textSpan(n.Value)), nodeSpans(n.Kids)...)
	}
	return all
}

func messageSpans(m api.Message) []span {
	all := []span{textSpan(m.MTI), listSpan(m.Fields)}
	for _, f := range m.Fields {
		all = append(append(all, textSpan(f.Value)), nodeSpans(f.Kids)...)
	}
	return all
}

func ruleSpans(r api.Rule) []span {
	return []span{textSpan(r.MTI), listSpan(r.Must), listSpan(r.May)}
}

// shared tells whether two of some spans have memory in common.
func shared(all ...[]span) bool {
	l := slices.DeleteFunc(slices.Concat(all...), func(s span) bool { return s.from == s.to })
	slices.SortFunc(l, func(a, b span) int { return cmp.Compare(a.from, b.from) })
	for i := 1; i < len(l); i++ {
		if l[i].from < l[i-1].to {
			return true
		}
	}
	return false
}

// fresh is a message of memory of its own: in one of literals the same texts would stand in many places.
func fresh(m api.Message) api.Message {
	c := api.Message{MTI: strings.Clone(m.MTI)}
	for _, f := range m.Fields {
		c.Fields = append(c.Fields, api.Field{Number: f.Number, Value: strings.Clone(f.Value), Kids: freshNodes(f.Kids)})
	}
	return c
}

func freshNodes(l []api.Node) []api.Node {
	var c []api.Node
	for _, n := range l {
		c = append(c, api.Node{Tag: n.Tag, Value: strings.Clone(n.Value), Kids: freshNodes(n.Kids)})
	}
	return c
}

func TestCutIsNewMemory(t *testing.T) {
	d := example()
	d.Fields[2] = api.FieldSpec{Number: 48, Class: api.ClassT, Enc: api.BINARY, Digits: 3, LenEnc: api.ASCII, Size: 100}
	for _, mti := range []string{"0200", "1200", "0800", "no type"} {
		m := fresh(message(mti, field(3, "000000"), kids(48, inner(112, leaf(90, "abc"), inner(112, leaf(90, "d"))), leaf(90, "e")), tag))
		one, two := grammar.Cut(d, m), grammar.Cut(d, m)
		if len(one.Fields) != 3 || shared(messageSpans(one), messageSpans(two), messageSpans(m)) {
			t.Errorf("P3: Cut(%s) answers memory that is another's", mti)
		}
		spare := m
		spare.Fields = append(slices.Grow(m.Fields, 9), field(128, "behind"))[:len(m.Fields)]
		if shared(messageSpans(grammar.Cut(d, spare)), messageSpans(spare)) {
			t.Errorf("P3: Cut(%s) answers memory that is another's", mti)
		}
	}
	twice := []api.Node{inner(112, leaf(90, "x"))}
	m := message("0800", kids(2, twice...), kids(3, twice...), kids(4, inner(112, twice...), inner(112, twice...)))
	if shared(messageSpans(grammar.Cut(d, m))) {
		t.Error("P3: two lists of what Cut answers share memory")
	}
}

func TestRuleIsNewMemory(t *testing.T) {
	numbers := []int{3, 39, 48, 64}
	d := example()
	d.Rules = []api.Rule{{MTI: strings.Clone("0200"), Must: numbers[:2], May: numbers[2:]}, {MTI: strings.Clone("0210"), Must: numbers[:0], May: numbers}}
	for i, mti := range []string{"0200", "0210"} {
		one, _ := grammar.Rule(d, mti)
		two, _ := grammar.Rule(d, mti)
		if shared(ruleSpans(one), ruleSpans(two), []span{textSpan(d.Rules[i].MTI), listSpan(numbers)}) {
			t.Errorf("P3: Rule(%s) answers memory that is another's", mti)
		}
	}
}

// seenDialect is one as text, with what stands behind its lists in their arrays.
func seenDialect(d api.Dialect) string {
	var b strings.Builder
	fmt.Fprintf(&b, "%v %v", d.Fields[:cap(d.Fields)], d.Rules[:cap(d.Rules)])
	for _, r := range d.Rules {
		fmt.Fprint(&b, r.Must[:cap(r.Must)], r.May[:cap(r.May)])
	}
	return b.String()
}

func seenMessage(m api.Message) string {
	var b strings.Builder
	fmt.Fprintf(&b, "%v", m.Fields[:cap(m.Fields)])
	for _, f := range m.Fields {
		fmt.Fprintf(&b, "%v", f.Kids[:cap(f.Kids)])
	}
	return b.String()
}

// roomy is a list with something behind it in its array.
func roomy[T any](l []T, behind T) []T { return append(slices.Clone(l), behind, behind)[:len(l)] }

func TestArgumentsStay(t *testing.T) {
	messages := someMessages()
	for _, m := range messages {
		for i, f := range m.Fields {
			m.Fields[i].Kids = roomy(f.Kids, leaf(7, "behind"))
		}
	}
	for _, d := range someDialects() {
		d.Fields = roomy(d.Fields, api.FieldSpec{Number: 7, Size: 7})
		d.Rules = roomy(d.Rules, api.Rule{MTI: "behind", Must: []int{7}})
		for i, r := range d.Rules {
			d.Rules[i].Must, d.Rules[i].May = roomy(r.Must, 77), roomy(r.May, 78)
		}
		before := seenDialect(d)
		for _, m := range messages {
			m.Fields = roomy(m.Fields, field(7, "behind"))
			before := seenMessage(m)
			answers(d, m)
			scribble(grammar.Cut(d, m))
			if r, _ := grammar.Rule(d, m.MTI); cap(r.Must) > 0 {
				_ = append(r.Must[:0], -99)
			}
			if seenMessage(m) != before {
				t.Fatalf("P3: what was given became %.300s", seenMessage(m))
			}
		}
		if seenDialect(d) != before {
			t.Fatalf("P3: what was given became %.300s", seenDialect(d))
		}
	}
}

// scribble writes over a message, up to the ends of its arrays.
func scribble(m api.Message) {
	l := m.Fields[:cap(m.Fields)]
	for i := range l {
		nodes := l[i].Kids[:cap(l[i].Kids)]
		for j := range nodes {
			nodes[j] = leaf(-99, "scribbled")
		}
		l[i] = field(-99, "scribbled")
	}
}

// TestSameAgain: the same arguments give the same answers, whatever was asked between: nothing is kept.
func TestSameAgain(t *testing.T) {
	all := func() (l []string) {
		for _, d := range someDialects() {
			for _, m := range someMessages() {
				l = append(l, answers(d, m)...)
			}
		}
		return l
	}
	first := all()
	for range 2 {
		if !slices.Equal(first, all()) {
			t.Fatal("P4: the same calls answer another thing once more")
		}
	}
}

// TestNothingOfEitherKind: lists of nothing, nil or empty, count alike.
func TestNothingOfEitherKind(t *testing.T) {
	d, e := example(), example()
	d.Rules[1].May, e.Rules[1].May = nil, []int{}
	l := []api.Field{field(3, "000000"), field(39, "00"), tag}
	empty := slices.Clone(l)
	for i := range empty {
		empty[i].Kids = []api.Node{}
	}
	for _, m := range []api.Message{message("0210", l...), message("0210", empty...)} {
		for _, x := range []api.Dialect{d, e} {
			if f, n := grammar.Fits(x, m); f != api.OK || n != 0 {
				t.Errorf("P5: Fits = %d, %d", f, n)
			}
			if !sameMessage(grammar.Cut(x, m), message("0210", l...)) {
				t.Errorf("P5: Cut = %v", grammar.Cut(x, m))
			}
		}
	}
	for _, f := range []api.Field{{Number: 48}, {Number: 48, Kids: []api.Node{}}} {
		valueIs(t, false, d.Fields[2], f)
	}
	for _, x := range []api.Dialect{{Name: "x", MTIEnc: 1, MapEnc: 1}, {Name: "x", MTIEnc: 1, MapEnc: 1, Fields: []api.FieldSpec{}, Rules: []api.Rule{}}} {
		if f, n := grammar.Right(x); f != api.OK || n != 0 {
			t.Errorf("P5: Right = %d, %d", f, n)
		}
	}
}
