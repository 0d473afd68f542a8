package tlv_test

import (
	"cmp"
	"fmt"
	"math"
	"math/rand"
	"slices"
	"strings"
	"testing"
	"unsafe"

	"turnstile/api"
	"turnstile/tlv"
)

// someTexts are right ones and wrong ones, short and long, and any bytes.
func someTexts() []string {
	l := []string{"", "\x00", "\x5A\x00", "\x70\x02\x5A\x00", "\x70\x07\x5A\x01x\x9F\x02\x01y", "0102AB0300", "0701x", "0701\x00", "\x9F\x80", wrap("\x5A\x01x", 7), wrap("\x5A\x01x", 9), strings.Repeat("\x5A\x00", 501), strings.Repeat("0", 9999), strings.Repeat("0", 10000), strings.Repeat("\x70", 100000)}
	r := rand.New(rand.NewSource(912))
	for n := range 20 {
		l = append(l, randomText(r, n))
	}
	return l
}

func someLists() [][]api.Node {
	long := strings.Repeat("v", 20000)
	l := [][]api.Node{nil, {}, some(), {leaf(90, "x")}, {leaf(90, long)}, {kid(112, leaf(90, long))}, chain(8, leaf(90, "x")), chain(9, leaf(90, "x")), make([]api.Node, 501), slices.Repeat([]api.Node{leaf(7, "abc")}, 501), {leaf(1, "AB"), leaf(3, "")}, {leaf(1, "\x00")}, {leaf(math.MinInt, "x"), leaf(math.MaxInt, "y")}}
	r := rand.New(rand.NewSource(913))
	for range 30 {
		l = append(l, anyNodes(r, 1), rightNodes(r, 1))
	}
	return l
}

func somePaths() [][]int {
	return [][]int{nil, {}, {90}, {112}, {112, 90}, {112, 224, 1}, {1}, {7}, {3}, {-7}, {-7, 0}, {math.MinInt}, {math.MaxInt}, {112, 112, 112, 112, 112, 112, 112, 90}, make([]int, 100000)}
}

func nothingBeside(t *testing.T, name string, nothing bool, e api.Errno) {
	t.Helper()
	if e != api.OK && !nothing {
		t.Errorf("P2: %s answers something beside the error %d", name, e)
	}
}

// TestEveryCallAnswers: no call panics, and beside an error there is nothing; a place is told beside an error alone.
func TestEveryCallAnswers(t *testing.T) {
	for _, b := range someTexts() {
		l, e, at := tlv.Parse(b)
		nothingBeside(t, "Parse", len(l) == 0, e)
		sub, f, place := tlv.ParseSub(b)
		nothingBeside(t, "ParseSub", len(sub) == 0, f)
		if e == api.OK && at != 0 || f == api.OK && place != 0 || at < 0 || at > len(b) || place < 0 || place > len(b) {
			t.Errorf("P2: the place of %.60x: %d, %d", b, at, place)
		}
	}
	for _, l := range someLists() {
		s, e := tlv.Build(l)
		nothingBeside(t, "Build", s == "", e)
		s, e = tlv.BuildSub(l)
		nothingBeside(t, "BuildSub", s == "", e)
		for range tlv.All(l) {
		}
		tlv.Print(l)
		for _, path := range somePaths() {
			if n, ok := tlv.Find(l, path...); !ok && !sameNode(n, api.Node{}) {
				t.Errorf("P2: Find answers a node beside false: %v", n)
			}
			set, e := tlv.Set(l, "new", path...)
			nothingBeside(t, "Set", len(set) == 0, e)
		}
	}
}

// span is memory that a list or a text has, spare room too.
type span struct{ from, to uintptr }

// listSpans is where lists stand, and all within them.
func listSpans(l []api.Node) []span {
	var all []span
	if cap(l) > 0 {
		from := uintptr(unsafe.Pointer(unsafe.SliceData(l)))
		all = append(all, span{from, from + uintptr(cap(l))*unsafe.Sizeof(api.Node{})})
	}
	for _, n := range l {
		all = append(all, listSpans(n.Kids)...)
	}
	return all
}

func textSpan(s string) span {
	from := uintptr(unsafe.Pointer(unsafe.StringData(s)))
	return span{from, from + uintptr(len(s))}
}

func textSpans(l []api.Node) []span {
	var all []span
	for _, r := range rows(l) {
		if r.node.Value != "" {
			all = append(all, textSpan(r.node.Value))
		}
	}
	return all
}

// shared tells whether two of some spans have memory in common.
func shared(all ...[]span) bool {
	l := slices.Concat(all...)
	slices.SortFunc(l, func(a, b span) int { return cmp.Compare(a.from, b.from) })
	for i := 1; i < len(l); i++ {
		if l[i].from < l[i-1].to {
			return true
		}
	}
	return false
}

func TestReadNodesAreNewMemory(t *testing.T) {
	b := strings.Clone("\x70\x0F\x5A\x03abc\x9F\x02\x03def\x70\x00\xE0\x00\x70\x05\x5A\x03ghi\x5A\x03jkl")
	one, e, _ := tlv.Parse(b)
	two, _, _ := tlv.Parse(b)
	if e != api.OK || shared(listSpans(one), listSpans(two)) || shared(textSpans(one), textSpans(two), []span{textSpan(b)}) {
		t.Errorf("P3: Parse answers memory that is another's (%d)", e)
	}
	b = strings.Clone("0103abc0203def0300")
	one, e, _ = tlv.ParseSub(b)
	two, _, _ = tlv.ParseSub(b)
	if e != api.OK || shared(listSpans(one), listSpans(two)) || shared(textSpans(one), textSpans(two), []span{textSpan(b)}) {
		t.Errorf("P3: ParseSub answers memory that is another's (%d)", e)
	}
}

func TestTextsAreNewMemory(t *testing.T) {
	for _, l := range [][]api.Node{{leaf(90, "abc")}, {leaf(1, ""), leaf(2, "x")}, {leaf(7, strings.Repeat("v", 90))}} {
		for name, call := range map[string]func([]api.Node) string{
			"Build":    func(l []api.Node) string { s, _ := tlv.Build(l); return s },
			"BuildSub": func(l []api.Node) string { s, _ := tlv.BuildSub(l); return s },
			"Print":    tlv.Print,
		} {
			one, two := call(l), call(l)
			if one == "" || shared([]span{textSpan(one)}, []span{textSpan(two)}, textSpans(l)) {
				t.Errorf("P3: %s answers memory that is another's", name)
			}
		}
	}
}

// TestFoundAndSetAreNewMemory: lists that stand in two places, too; spare room behind a list, too.
func TestFoundAndSetAreNewMemory(t *testing.T) {
	roomy := make([]api.Node, 3, 10)
	roomy[0], roomy[1], roomy[2] = leaf(90, strings.Repeat("a", 5)), leaf(1, strings.Repeat("b", 5)), api.Node{Tag: 224, Kids: make([]api.Node, 0, 7)}
	l := make([]api.Node, 3, 5)
	l[0], l[1], l[2] = api.Node{Tag: 112, Kids: roomy}, api.Node{Tag: 7, Value: strings.Repeat("c", 3), Kids: roomy[:2]}, leaf(8, strings.Repeat("d", 3))
	given := slices.Concat(listSpans(l)[:2], listSpans(roomy[2].Kids)) // the other lists stand within these
	texts := slices.Concat(textSpans(roomy), []span{textSpan(l[1].Value), textSpan(l[2].Value)})
	for _, path := range [][]int{{112}, {112, 90}, {112, 224}, {7}, {7, 1}, {8}} {
		one, ok := tlv.Find(l, path...)
		two, _ := tlv.Find(l, path...)
		if !ok || shared(listSpans(one.Kids), listSpans(two.Kids), given) || shared(textSpans([]api.Node{one}), textSpans([]api.Node{two}), texts) {
			t.Errorf("P3: Find(%v) answers memory that is another's", path)
		}
	}
	value := strings.Repeat("e", 3)
	for _, path := range [][]int{{112, 90}, {7, 1}, {8}} {
		one, e := tlv.Set(l, value, path...)
		two, _ := tlv.Set(l, value, path...)
		if e != api.OK || shared(listSpans(one), listSpans(two), given) || shared(textSpans(one), textSpans(two), texts, []span{textSpan(value)}) {
			t.Errorf("P3: Set(%v) answers memory that is another's", path)
		}
	}
}

// whole is a list as text, with what stands behind it in its array.
func whole(l []api.Node) string { return fmt.Sprintf("%#v", l[:cap(l)]) }

func TestArgumentsStay(t *testing.T) {
	for _, l := range someLists() {
		l = append(slices.Clone(l), leaf(90, "behind"), kid(112, leaf(90, "behind")))
		l = l[:len(l)-2]
		before := whole(l)
		tlv.Build(l)
		tlv.BuildSub(l)
		tlv.Print(l)
		for range tlv.All(l) {
		}
		for _, path := range somePaths() {
			path = append(slices.Clone(path), 112, 90)
			same := slices.Clone(path)
			path = path[:len(path)-2]
			if n, ok := tlv.Find(l, path...); ok {
				scribble(append(n.Kids, leaf(5, "x")))
			}
			set, _ := tlv.Set(l, "new", path...)
			scribble(append(set, leaf(5, "x")))
			if !slices.Equal(path[:len(same)], same) {
				t.Errorf("P3: a path became %v", path[:len(same)])
			}
		}
		if whole(l) != before {
			t.Errorf("P3: what was given became %.200s", whole(l))
		}
	}
}

// scribble writes over lists, up to the ends of their arrays.
func scribble(l []api.Node) {
	l = l[:cap(l)]
	for i := range l {
		scribble(l[i].Kids)
		l[i] = api.Node{Tag: -99, Value: "scribbled"}
	}
}

// TestSameAgain: the same arguments give the same answers, whatever was asked between: nothing is kept.
func TestSameAgain(t *testing.T) {
	answers := func() (all []string) {
		for _, b := range someTexts() {
			l, e, at := tlv.Parse(b)
			sub, f, place := tlv.ParseSub(b)
			all = append(all, fmt.Sprint(l, e, at, sub, f, place))
		}
		for _, l := range someLists() {
			s, e := tlv.Build(l)
			sub, f := tlv.BuildSub(l)
			all = append(all, fmt.Sprint(s, e, sub, f, told(l), tlv.Print(l)))
			for _, path := range somePaths() {
				n, ok := tlv.Find(l, path...)
				set, e := tlv.Set(l, "new", path...)
				all = append(all, fmt.Sprint(n, ok, set, e))
			}
		}
		return all
	}
	first := answers()
	for range 3 {
		if !slices.Equal(first, answers()) {
			t.Fatal("P4: the same calls answer another thing once more")
		}
	}
}
