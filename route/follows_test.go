package route_test

import (
	"fmt"
	"maps"
	"math/rand"
	"slices"
	"strings"
	"testing"

	"turnstile/api"
	"turnstile/route"
)

// 15.6: what follows from the promises ahead of it.

// randomText is digits, mostly few and of few kinds, so that one often begins with another; now and then it is something else.
func randomText(r *rand.Rand) string {
	s := textOf(r, oneOf(r, "01", "49", "0123456789"), oneOf(r, r.Intn(4), r.Intn(7), r.Intn(24)))
	if r.Intn(10) == 0 {
		s += oneOf(r, "x", " ", "/", ":", "\x00", "\xFF", "x1", "٤")
	}
	return s
}

// TestManySteps: tries to which this and that is done, against the chapter's words.
func TestManySteps(t *testing.T) {
	r := rand.New(rand.NewSource(1502))
	put, dropped := codes{}, 0
	for range 300 {
		b := newBoth()
		for step := range oneOf(r, 5, 50, 200) {
			switch r.Intn(5) {
			case 0, 1:
				put[b.put(t, randomText(r), step)]++
			case 2:
				prefix := randomText(r)
				if there := slices.Sorted(maps.Keys(b.m)); len(there) > 0 && r.Intn(2) == 0 {
					prefix = oneOf(r, there...)
				}
				if b.drop(t, prefix) {
					dropped++
				}
			default:
				b.find(t, randomText(r))
			}
			if r.Intn(8) == 0 {
				b.stands(t)
			}
		}
		b.stands(t)
	}
	put.enough(t, 1000, api.OK, api.ErrPrefix)
	if dropped < 1000 {
		t.Errorf("the test dropped only %d things", dropped)
	}
}

// TestAllTexts: all texts of up to five digits and signs, in tries of short prefixes.
func TestAllTexts(t *testing.T) {
	r := rand.New(rand.NewSource(1503))
	texts := []string{""}
	for i := 0; i < len(texts); i++ {
		if len(texts[i]) < 5 {
			for _, c := range "017x" {
				texts = append(texts, texts[i]+string(c))
			}
		}
	}
	for range 20 {
		b := newBoth()
		for i := range 1 + r.Intn(30) {
			b.put(t, textOf(r, "017", 1+r.Intn(5)), i)
		}
		for _, s := range texts {
			b.find(t, s)
		}
	}
}

// TestFoundIsLongest: what Find tells is laid there, and nothing longer with which the digits begin is.
func TestFoundIsLongest(t *testing.T) {
	r := rand.New(rand.NewSource(1504))
	for range 300 {
		x := route.New[string]()
		for range r.Intn(60) {
			p := randomText(r)
			x.Put(p, p)
		}
		for range 60 {
			digits := textOf(r, oneOf(r, "01", "49"), r.Intn(24))
			v, n, ok := x.Find(digits)
			if v != digits[:n] || ok != (n > 0) {
				t.Errorf("15.6: Find(%q) = %q, %d, %v", digits, v, n, ok)
			}
			for p := range x.All() {
				if len(p) > n && strings.HasPrefix(digits, p) {
					t.Errorf("15.6: Find(%q) tells %d digits, and %q is laid", digits, n, p)
				}
			}
		}
	}
}

// seenOf is all that a trie tells of some texts.
func seenOf(x *route.Trie[int], texts []string) string {
	var b strings.Builder
	fmt.Fprintln(&b, x.Len(), told(x))
	for _, s := range texts {
		v, n, ok := x.Find(s)
		fmt.Fprintln(&b, s, v, n, ok)
	}
	return b.String()
}

// TestAnyOrder: the same things, whatever the order in which they came there, and whatever was there meanwhile.
func TestAnyOrder(t *testing.T) {
	r := rand.New(rand.NewSource(1505))
	for range 200 {
		b := newBoth()
		for i := range r.Intn(50) {
			b.put(t, randomText(r), i)
		}
		var texts []string
		for range 60 {
			texts = append(texts, randomText(r))
		}
		want := seenOf(b.x, texts)
		for range 3 {
			if s := seenOf(again(r, b.m), texts); s != want {
				t.Errorf("15.6: the same things in another order: %s; must be %s", s, want)
			}
		}
	}
}

// again is a trie with the things of a model, laid there in some order, with others there meanwhile.
func again(r *rand.Rand, m model) *route.Trie[int] {
	x := route.New[int]()
	prefixes := slices.Sorted(maps.Keys(m))
	r.Shuffle(len(prefixes), func(i, j int) { prefixes[i], prefixes[j] = prefixes[j], prefixes[i] })
	for _, p := range prefixes {
		other := randomText(r)
		_, wanted := m[other]
		meanwhile := !wanted && x.Put(other, -1) == api.OK
		x.Put(p, m[p])
		if meanwhile {
			x.Drop(other)
		}
	}
	return x
}

// TestDropUndoesPut: behind both all is as it was ahead of them.
func TestDropUndoesPut(t *testing.T) {
	r := rand.New(rand.NewSource(1506))
	for range 200 {
		x := route.New[int]()
		var texts []string
		for i := range r.Intn(50) {
			x.Put(randomText(r), i)
			texts = append(texts, randomText(r))
		}
		for range 20 {
			prefix := randomText(r)
			asked := append(texts, prefix, prefix+"1", prefix+"x")
			before := seenOf(x, asked)
			if x.Put(prefix, -1) != api.OK {
				continue
			}
			if seenOf(x, asked) == before || !x.Drop(prefix) || seenOf(x, asked) != before {
				t.Errorf("15.6: Put and Drop of %q do not undo one another", prefix)
			}
		}
	}
}

// TestRoutesAreFound: the routes of a right configuration can be laid into a trie, and each is found under its prefix.
func TestRoutesAreFound(t *testing.T) {
	r := rand.New(rand.NewSource(1507))
	ways := map[string]int{}
	for len(ways) < 4096 {
		ways[textOf(r, "0123456789", 1+r.Intn(11))] = r.Intn(3)
	}
	c := good()
	c.Routes = nil
	x := route.New[int]()
	for prefix, group := range ways {
		c.Routes = append(c.Routes, api.Route{Prefix: prefix, Group: group})
		if e := x.Put(prefix, group); e != api.OK || x.Len() != len(c.Routes) {
			t.Errorf("15.1: Put(%q) = %d, Len %d", prefix, e, x.Len())
		}
	}
	holds(t, "4096 routes", c, api.OK, 0)
	for prefix, group := range ways {
		if g, n, ok := x.Find(prefix + "x"); g != group || n != len(prefix) || !ok {
			t.Errorf("15.6: Find(%q) = %d, %d, %v; must be %d", prefix, g, n, ok, group)
		}
	}
	c.Routes[4095].Prefix = c.Routes[0].Prefix
	holds(t, "the first prefix once more, at the end", c, api.ErrPrefix, 4095)
}
