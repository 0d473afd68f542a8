package route_test

import (
	"slices"
	"strings"
	"testing"

	"turnstile/api"
	"turnstile/route"
)

func TestTrieExamples(t *testing.T) {
	x := route.New[string]()
	if x.Len() != 0 || len(told(x)) != 0 {
		t.Errorf("15.1: a new trie has %d, tells %q", x.Len(), told(x))
	}
	for _, c := range []struct {
		prefix, v string
		e         api.Errno
	}{{"4", "a", api.OK}, {"4111", "b", api.OK}, {"4", "c", api.ErrPrefix}, {"", "d", api.ErrPrefix}} {
		if e := x.Put(c.prefix, c.v); e != c.e {
			t.Errorf("15.1: Put(%q) = %d; must be %d", c.prefix, e, c.e)
		}
	}
	finds(t, x, "4111111", "b", 4, true)
	finds(t, x, "42", "a", 1, true)
	finds(t, x, "41x1", "a", 1, true)
	finds(t, x, "5", "", 0, false)
	if l := told(x); !slices.Equal(l, []string{"4 a", "4111 b"}) {
		t.Errorf("15.3: All tells %q", l)
	}
	if !x.Drop("4") {
		t.Error("15.1: Drop(\"4\") tells that nothing was there")
	}
	finds(t, x, "42", "", 0, false)
}

func finds(t *testing.T, x *route.Trie[string], text, v string, n int, ok bool) {
	t.Helper()
	if gotV, gotN, got := x.Find(text); gotV != v || gotN != n || got != ok {
		t.Errorf("15.2: Find(%.40q) = %q, %d, %v; must be %q, %d, %v", text, gotV, gotN, got, v, n, ok)
	}
}

// TestPrefixLengths: 1 to 19 digits, and no more.
func TestPrefixLengths(t *testing.T) {
	b := newBoth()
	const digits = "9876543210123456789012345"
	for n := range len(digits) + 1 {
		e := b.put(t, digits[:n], n)
		if want := n >= 1 && n <= 19; (e == api.OK) != want {
			t.Errorf("15.1: Put of %d digits is %d", n, e)
		}
		b.put(t, digits[:n], -n)
		b.stands(t)
	}
	for n := range len(digits) + 1 {
		b.find(t, digits[:n])
	}
	for n := range len(digits) + 1 {
		b.drop(t, digits[:n])
		b.drop(t, digits[:n])
		b.stands(t)
		b.find(t, digits)
	}
	b.put(t, strings.Repeat("4", 1000000), 1)
	b.drop(t, strings.Repeat("4", 1000000))
	b.stands(t)
}

// TestPrefixBytes: each byte, at each place of a prefix.
func TestPrefixBytes(t *testing.T) {
	for _, n := range []int{1, 2, 3, 11, 18, 19} {
		for at := range n {
			b := newBoth()
			for c := range 256 {
				prefix := []byte(strings.Repeat("7", n))
				prefix[at] = byte(c)
				if e := b.put(t, string(prefix), c); (e == api.OK) != (c >= '0' && c <= '9') {
					t.Errorf("15.1: Put(%q) = %d", prefix, e)
				}
				b.find(t, string(prefix))
			}
			b.stands(t)
			for c := range 256 {
				prefix := []byte(strings.Repeat("7", n))
				prefix[at] = byte(c)
				b.drop(t, string(prefix))
			}
			b.stands(t)
		}
	}
}

// TestFindStopsAtOthers: the digits ahead of a byte that is none are read, and those behind it are not.
func TestFindStopsAtOthers(t *testing.T) {
	b := newBoth()
	for i, p := range []string{"4", "41", "4111", "411111", "0", "00"} {
		b.put(t, p, i+1)
	}
	for _, text := range []string{"4111111", "0000", "41", "9", "4"} {
		for at := range len(text) + 1 {
			for c := range 256 {
				b.find(t, text[:at]+string([]byte{byte(c)})+text[at:])
			}
		}
	}
	for _, text := range []string{"", "x4", " 4", "4\xFF1", "٤", "４", "4١", strings.Repeat("4", 1000000), strings.Repeat("0", 1000000), "41" + strings.Repeat("x1", 100000)} {
		b.find(t, text)
	}
}

// TestPutRefusedChangesNothing: what is laid stays as it was.
func TestPutRefusedChangesNothing(t *testing.T) {
	x := laid(t, "4", "4111")
	before := told(x)
	for _, p := range []string{"", "4", "4111", "4x", "x", "41111111111111111111", "4 ", "-4"} {
		if e := x.Put(p, "another"); e != api.ErrPrefix {
			t.Errorf("15.1: Put(%q) = %d; must be ErrPrefix", p, e)
		}
		if !slices.Equal(told(x), before) || x.Len() != 2 {
			t.Errorf("15.1: behind Put(%q), which was refused, All tells %q, Len %d", p, told(x), x.Len())
		}
	}
	finds(t, x, "4", "at 4", 1, true)
	finds(t, x, "4111", "at 4111", 4, true)
}

// TestDropTakesOneAway: not what is longer or shorter, and nothing where nothing is.
func TestDropTakesOneAway(t *testing.T) {
	x := laid(t, "4", "41", "4111", "5")
	for _, p := range []string{"", "411", "41111", "6", "x", "4x", "41x", "4111\x00"} {
		if x.Drop(p) || x.Len() != 4 {
			t.Errorf("15.1: Drop(%q), under which nothing is: Len %d", p, x.Len())
		}
	}
	if !x.Drop("41") || x.Drop("41") {
		t.Error("15.1: Drop(\"41\") once and again")
	}
	if l := told(x); !slices.Equal(l, []string{"4 at 4", "4111 at 4111", "5 at 5"}) || x.Len() != 3 {
		t.Errorf("15.1: behind Drop(\"41\") All tells %q, Len %d", l, x.Len())
	}
	finds(t, x, "4119", "at 4", 1, true)
	finds(t, x, "41119", "at 4111", 4, true)
	if e := x.Put("41", "again"); e != api.OK {
		t.Errorf("15.1: Put of what was dropped: %d", e)
	}
	finds(t, x, "4119", "again", 2, true)
	for _, p := range []string{"4111", "4", "5", "41"} {
		if !x.Drop(p) {
			t.Errorf("15.1: Drop(%q) tells that nothing was there", p)
		}
	}
	if x.Len() != 0 || len(told(x)) != 0 {
		t.Errorf("15.1: behind Drop of all: Len %d, All tells %q", x.Len(), told(x))
	}
	finds(t, x, "4111", "", 0, false)
}

func TestAllRises(t *testing.T) {
	want := []string{"0", "00", "000", "01", "1", "10", "100", "19", "2", "4", "40", "4111", "42", "9", "99", "9999999999999999999"}
	shuffled := []string{"99", "4", "000", "42", "19", "0", "9999999999999999999", "1", "4111", "10", "2", "00", "9", "100", "01", "40"}
	var l []string
	for p, v := range laid(t, shuffled...).All() {
		l = append(l, p)
		if v != "at "+p {
			t.Errorf("15.3: All tells %q under %q", v, p)
		}
	}
	if !slices.Equal(l, want) {
		t.Errorf("15.3: All goes over %q; must be %q", l, want)
	}
}

// keeps lays a thing down, and holds what comes back against it; a thing that is nothing is there as well.
func keeps[T any](t *testing.T, what string, v T, same func(a, b T) bool) {
	t.Helper()
	x := route.New[T]()
	if _, n, ok := x.Find("4"); n != 0 || ok {
		t.Errorf("15.2: %s: Find in an empty trie is %d, %v", what, n, ok)
	}
	if e := x.Put("4", v); e != api.OK || x.Put("4", v) != api.ErrPrefix || x.Len() != 1 {
		t.Errorf("15.1: %s: Put = %d, Len %d", what, e, x.Len())
	}
	x.Put("5", v)
	if got, n, ok := x.Find("41"); !same(got, v) || n != 1 || !ok {
		t.Errorf("15.2: %s: Find = %v, %d, %v", what, got, n, ok)
	}
	all := 0
	for _, got := range x.All() {
		all++
		if !same(got, v) {
			t.Errorf("15.3: %s: All tells %v", what, got)
		}
	}
	if all != 2 || !x.Drop("4") || x.Drop("4") || x.Len() != 1 {
		t.Errorf("15.1: %s: All tells %d things; behind Drop Len is %d", what, all, x.Len())
	}
	var nothing T
	if got, n, ok := x.Find("41"); !same(got, nothing) || n != 0 || ok {
		t.Errorf("15.2: %s: behind Drop Find is %v, %d, %v", what, got, n, ok)
	}
}

func equal[T comparable](a, b T) bool { return a == b }

func TestThingsOfAnyType(t *testing.T) {
	keeps(t, "a number", 7, equal[int])
	keeps(t, "0", 0, equal[int])
	keeps(t, "a text", "x", equal[string])
	keeps(t, "an empty text", "", equal[string])
	keeps(t, "nothing at all", struct{}{}, equal[struct{}])
	keeps(t, "false", false, equal[bool])
	keeps(t, "a pointer", new(int), equal[*int])
	keeps(t, "a pointer to nothing", nil, equal[*int])
	keeps[any](t, "an interface of nothing", nil, equal[any])
	keeps[error](t, "an interface", api.ErrArg, equal[error])
	keeps(t, "an array", [1000]int{999: 1}, equal[[1000]int])
	keeps(t, "a route", api.Route{Prefix: "4", Group: 1}, equal[api.Route])
	keeps(t, "a list", []int{1, 2}, func(a, b []int) bool {
		return len(a) == len(b) && (len(a) == 0 || &a[0] == &b[0])
	})
	keeps(t, "a function", func() int { return 5 }, func(a, b func() int) bool {
		return (a == nil) == (b == nil) && (a == nil || a() == b())
	})
	keeps(t, "a trie", laid(t, "4"), equal[*route.Trie[string]])
}
