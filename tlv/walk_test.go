package tlv_test

import (
	"iter"
	"math/rand"
	"slices"
	"strings"
	"testing"

	"turnstile/api"
	"turnstile/tlv"
)

// told is what All goes over.
func told(l []api.Node) []row {
	var all []row
	for deep, n := range tlv.All(l) {
		all = append(all, row{deep, n})
	}
	return all
}

func sameRows(a, b []row) bool {
	return slices.EqualFunc(a, b, func(a, b row) bool { return a.deep == b.deep && sameNode(a.node, b.node) })
}

func checkAll(t *testing.T, l []api.Node) {
	t.Helper()
	if got, want := told(l), rows(l); !sameRows(got, want) {
		t.Errorf("9.5: All(%.200v): %.200v, must be %.200v", l, got, want)
	}
}

// some is nodes of all kinds, some of them twice.
func some() []api.Node {
	return []api.Node{
		kid(112, leaf(90, "one"), kid(224, leaf(1, "two"), leaf(90, "three")), leaf(90, "four")),
		leaf(90, "five"),
		{Tag: -7, Value: "six", Kids: []api.Node{leaf(0, "seven"), {Tag: 31, Kids: []api.Node{{}}}}},
		kid(112, leaf(40706, "eight")),
		leaf(32, ""),
	}
}

func TestAllOfSome(t *testing.T) {
	want := []struct{ deep, tag int }{{1, 112}, {2, 90}, {2, 224}, {3, 1}, {3, 90}, {2, 90}, {1, 90}, {1, -7}, {2, 0}, {2, 31}, {3, 0}, {1, 112}, {2, 40706}, {1, 32}}
	i := 0
	for deep, n := range tlv.All(some()) {
		if i >= len(want) || deep != want[i].deep || n.Tag != want[i].tag {
			t.Fatalf("9.5: All, the node %d: %d deep, %d", i, deep, n.Tag)
		}
		i++
	}
	if i != len(want) {
		t.Errorf("9.5: All goes over %d nodes, must be %d", i, len(want))
	}
	if len(told(nil)) != 0 || len(told([]api.Node{})) != 0 {
		t.Error("9.5: All of no nodes goes over some")
	}
}

func TestAllOfRandomNodes(t *testing.T) {
	r := rand.New(rand.NewSource(904))
	for range 20000 {
		checkAll(t, anyNodes(r, 1))
	}
	checkAll(t, slices.Repeat(some(), 1000))
}

// TestAllTellsItsOwnLists: the Kids that are told are l's.
func TestAllTellsItsOwnLists(t *testing.T) {
	l := some()
	want := rows(l)
	for i, r := range told(l) {
		if len(r.node.Kids) > 0 && &r.node.Kids[0] != &want[i].node.Kids[0] {
			t.Errorf("9.5: the Kids of the node %d are a copy", i)
		}
	}
}

// TestAllBeginsWithTheRange: what was written ahead of it shows.
func TestAllBeginsWithTheRange(t *testing.T) {
	l := some()
	all := tlv.All(l)
	l[0].Kids[1].Kids[0].Value = "another"
	l[1] = kid(112, leaf(5, "x"))
	var got []row
	for deep, n := range all {
		got = append(got, row{deep, n})
	}
	if !sameRows(got, rows(l)) {
		t.Errorf("9.5: All does not go over what there was when the range began: %v", got)
	}
}

func TestAllIsLeftEarly(t *testing.T) {
	want := rows(some())
	all := tlv.All(some())
	for stop := range want {
		for range 2 {
			i := 0
			for deep, n := range all {
				if deep != want[i].deep || !sameNode(n, want[i].node) {
					t.Fatalf("P3: All, left at %d, gone over again: the node %d is %v", stop, i, n)
				}
				if i == stop {
					break
				}
				i++
			}
			if i != stop {
				t.Errorf("9.5: All was to be left at %d, went to %d", stop, i)
			}
		}
	}
}

func TestAllWithinItself(t *testing.T) {
	want := rows(some())
	all := tlv.All(some())
	i := 0
	for deep, n := range all {
		var inner []row
		for deep, n := range all {
			inner = append(inner, row{deep, n})
			if len(inner) > i {
				break
			}
		}
		if deep != want[i].deep || !sameNode(n, want[i].node) || !sameRows(inner, want[:i+1]) {
			t.Fatalf("P3: All within itself: the node %d is %v, within it %v", i, n, inner)
		}
		i++
	}
	next, stop := iter.Pull2(all)
	defer stop()
	for i := range want {
		if deep, n, ok := next(); !ok || deep != want[i].deep || !sameNode(n, want[i].node) {
			t.Errorf("9.5: All, one by one: the node %d is %v, %v", i, n, ok)
		}
	}
	if _, _, ok := next(); ok {
		t.Error("9.5: All, one by one, does not end")
	}
}

// TestDeepLists: as many parts within one another as the document's bound lets be.
func TestDeepLists(t *testing.T) {
	const deep = 1 << 16
	l := chain(deep, leaf(90, "x"))
	last := 0
	for at, n := range tlv.All(l) {
		if last++; at != last || (n.Tag == 90) != (at == deep) {
			t.Fatalf("9.5: All: a node %d deep, where one %d deep must be", at, last)
		}
	}
	if last != deep {
		t.Errorf("9.5: All: %d deep, must be %d", last, deep)
	}
	path := append(slices.Repeat([]int{112}, deep-1), 90)
	if n, ok := tlv.Find(l, path...); !ok || n.Value != "x" {
		t.Errorf("9.6: Find of what is %d deep: %v, %v", deep, n.Value, ok)
	}
	if _, ok := tlv.Find(l, path[:deep-1]...); !ok {
		t.Error("9.6: Find of the one that holds it")
	}
	if _, ok := tlv.Find(l, append(path, 90)...); ok {
		t.Error("9.6: Find of what stands in nothing")
	}
	set, e := tlv.Set(l, "new", path...)
	if n, ok := tlv.Find(set, path...); e != api.OK || !ok || n.Value != "new" {
		t.Errorf("9.7: Set of what is %d deep: %v, %d", deep, n.Value, e)
	}
	if _, e := tlv.Build(l); e != api.ErrDeep {
		t.Errorf("9.2: Build of what is %d deep: %d", deep, e)
	}
	const lines = 5000
	if s := tlv.Print(chain(lines, leaf(90, "x"))); strings.Count(s, "\n") != lines || !strings.HasSuffix(s, strings.Repeat("  ", lines-1)+"5A 78\n") {
		t.Errorf("9.8: Print of what is %d deep", lines)
	}
}

func checkFind(t *testing.T, l []api.Node, path ...int) {
	t.Helper()
	n, ok := tlv.Find(l, path...)
	if want, wok := wantFind(l, path); !sameNode(n, want) || ok != wok {
		t.Errorf("9.6: Find(%.200v, %v) = %.200v, %v, must be %.200v, %v", l, path, n, ok, want, wok)
	}
}

func checkSet(t *testing.T, l []api.Node, value string, path ...int) {
	t.Helper()
	set, e := tlv.Set(l, value, path...)
	if want, we := wantSet(l, value, path); !same(set, want) || e != we {
		t.Errorf("9.7: Set(%.200v, %.60q, %v) = %.200v, %d, must be %.200v, %d", l, value, path, set, e, want, we)
	}
}

func TestFindOfExamples(t *testing.T) {
	l := []api.Node{leaf(40706, "\x00\x00\x00\x00\x12\x34"), kid(112, leaf(90, "\x41\x11\x11"))}
	if n, ok := tlv.Find(l, 112, 90); !ok || !sameNode(n, leaf(90, "\x41\x11\x11")) {
		t.Errorf("9.6: Find(112, 90) = %v, %v", n, ok)
	}
	if n, ok := tlv.Find(l, 112); !ok || !sameNode(n, l[1]) {
		t.Errorf("9.6: Find(112) = %v, %v", n, ok)
	}
	if set, e := tlv.Set(l, "x", 112); len(set) != 0 || e != api.ErrPath {
		t.Errorf("9.7: Set at 112 = %v, %d", set, e)
	}
}

func TestFindOfSome(t *testing.T) {
	for _, c := range []struct {
		path  []int
		ok    bool
		value string
	}{
		{nil, false, ""}, {[]int{}, false, ""},
		{[]int{90}, true, "five"}, {[]int{112, 90}, true, "one"}, {[]int{112, 224, 90}, true, "three"}, {[]int{112, 224, 1}, true, "two"},
		{[]int{-7}, true, "six"}, {[]int{-7, 0}, true, "seven"}, {[]int{-7, 31, 0}, true, ""}, {[]int{32}, true, ""}, {[]int{112}, true, ""},
		{[]int{112, 40706}, false, ""}, // it stands in the second one with that Tag
		{[]int{1}, false, ""}, {[]int{224}, false, ""}, {[]int{112, 1}, false, ""}, {[]int{112, 224, 1, 1}, false, ""}, {[]int{90, 90}, false, ""}, {[]int{5}, false, ""}, {[]int{0}, false, ""}, {[]int{224, 90}, false, ""}, {[]int{112, 112}, false, ""},
	} {
		n, ok := tlv.Find(some(), c.path...)
		if ok != c.ok || n.Value != c.value || ok && n.Tag != c.path[len(c.path)-1] {
			t.Errorf("9.6: Find(%v) = %v, %v, must be %q, %v", c.path, n, ok, c.value, c.ok)
		}
		checkFind(t, some(), c.path...)
		checkSet(t, some(), "new", c.path...)
		checkSet(t, some(), "", c.path...)
	}
	if n, ok := tlv.Find(some(), -7, 5); ok || !sameNode(n, api.Node{}) {
		t.Errorf("P2: Find of nothing = %v, %v", n, ok)
	}
	checkFind(t, nil, 90)
	checkFind(t, nil)
	checkSet(t, nil, "x", 90)
	checkSet(t, nil, "x")
}

// TestSetOfEachNumber: a marked one is refused, whatever it is a Tag of; a number that is no tag is not marked.
func TestSetOfEachNumber(t *testing.T) {
	check := func(tag int) {
		t.Helper()
		set, e := tlv.Set([]api.Node{leaf(5, ""), leaf(tag, "old"), leaf(tag, "old")}, "new", tag)
		switch {
		case tag == 5:
			return
		case isMarked(tag):
			if len(set) != 0 || e != api.ErrPath {
				t.Errorf("9.7: Set at %d, which is marked: %v, %d", tag, set, e)
			}
		case e != api.OK || !same(set, []api.Node{leaf(5, ""), leaf(tag, "new"), leaf(tag, "old")}):
			t.Errorf("9.7: Set at %d, which is not marked: %v, %d", tag, set, e)
		}
	}
	for tag := -300; tag < 1<<17; tag++ {
		check(tag)
	}
	for upper := range 1 << 16 {
		check(upper<<8 | 127)
		check(upper<<8 | 128)
	}
	for _, tag := range noTags {
		check(tag)
	}
}

func TestSetOfWhatHasKids(t *testing.T) {
	for _, tag := range []int{90, 112, 0, -1, 31, 40706} {
		for _, n := range []api.Node{kid(tag, leaf(1, "")), {Tag: tag, Value: "x", Kids: []api.Node{{}}}} {
			if set, e := tlv.Set([]api.Node{n, leaf(tag, "")}, "new", tag); len(set) != 0 || e != api.ErrPath {
				t.Errorf("9.7: Set at %d with Kids: %v, %d", tag, set, e)
			}
		}
	}
	l := []api.Node{{Tag: 90, Value: "old", Kids: []api.Node{}}}
	if set, e := tlv.Set(l, "new", 90); e != api.OK || !same(set, []api.Node{leaf(90, "new")}) {
		t.Errorf("9.7: Set at one whose Kids are none: %v, %d", set, e)
	}
}

// TestSetAsksNothingElse: not of other nodes, not of the value, not of how deep or many there are.
func TestSetAsksNothingElse(t *testing.T) {
	for _, value := range []string{"", "\x00\xFF\n", strings.Repeat("v", 100000)} {
		checkSet(t, []api.Node{leaf(90, "old")}, value, 90)
		checkSet(t, slices.Repeat([]api.Node{leaf(112, "x"), leaf(90, "old"), kid(0, leaf(-1, strings.Repeat("w", 20000)))}, 300), value, 90)
		checkSet(t, chain(20, leaf(1, ""), leaf(90, "old"), leaf(90, "old")), value, append(slices.Repeat([]int{112}, 19), 90)...)
	}
}

// TestSetOfListsInTwoPlaces: the other place stays as it was.
func TestSetOfListsInTwoPlaces(t *testing.T) {
	shared := []api.Node{leaf(90, "old"), leaf(1, "")}
	l := []api.Node{{Tag: 112, Kids: shared}, {Tag: 224, Kids: shared}, {Tag: 224, Kids: shared[:1]}}
	want := []api.Node{kid(112, leaf(90, "old"), leaf(1, "")), kid(224, leaf(90, "new"), leaf(1, "")), kid(224, leaf(90, "old"))}
	if set, e := tlv.Set(l, "new", 224, 90); e != api.OK || !same(set, want) {
		t.Errorf("9.7: Set of a list that stands in three places: %v, %d", set, e)
	}
	if shared[0].Value != "old" {
		t.Error("P3: Set wrote into what it was given")
	}
}

func TestFindAndSetOfRandomNodes(t *testing.T) {
	r := rand.New(rand.NewSource(905))
	found, set := 0, 0
	for range 40000 {
		l := anyNodes(r, 1)
		for range 4 {
			path := randomPath(r, l)
			checkFind(t, l, path...)
			checkSet(t, l, randomText(r, r.Intn(3)), path...)
			if _, ok := wantFind(l, path); ok {
				found++
			}
			if _, e := wantSet(l, "", path); e == api.OK {
				set++
			}
		}
	}
	if found < 20000 || set < 10000 {
		t.Errorf("the test found %d nodes, set %d only", found, set)
	}
}

// randomPath leads somewhere, for the most part; sometimes beside it.
func randomPath(r *rand.Rand, l []api.Node) []int {
	var path []int
	for len(l) > 0 && r.Intn(5) > 0 {
		n := oneOf(r, l)
		path = append(path, n.Tag)
		l = n.Kids
	}
	if r.Intn(5) == 0 {
		path = append(path, oneOf(r, plainTags))
	}
	return path
}
