package route_test

import (
	"fmt"
	"iter"
	"math/rand"
	"reflect"
	"runtime"
	"slices"
	"strings"
	"sync"
	"testing"
	"unsafe"
	"weak"

	"turnstile/api"
	"turnstile/route"
)

// What holds of all calls (P1 to P5).

func someConfigs() []api.Config {
	l := []api.Config{{}, good()}
	for _, n := range edges {
		l = append(l, oddConfig(n))
	}
	for _, x := range turns() {
		c := good()
		x.do(&c)
		l = append(l, c)
	}
	r := rand.New(rand.NewSource(1508))
	for range 200 {
		c := good()
		for range 1 + r.Intn(5) {
			bend(r, &c)
		}
		l = append(l, c)
	}
	return l
}

// oddConfig has one number everywhere.
func oddConfig(n int) api.Config {
	c := good()
	c.Dialects[1].Fields = []api.FieldSpec{{Number: n, Class: n, Enc: n, Digits: n, LenEnc: n, Size: n}}
	c.Dialects[1].Rules = []api.Rule{{MTI: "1200", Must: []int{n}, May: []int{n, n}}}
	c.Links = append(c.Links, api.Link{Name: "x", Role: n, Dialect: n, Header: n, Most: n, ID: "1", MAC: n, Pad: n, Echo: n, Answer: n})
	c.Groups = append(c.Groups, api.Group{Name: "x", Links: []int{n, n}, Standin: api.Limits{Single: n, Count: n, Sum: n, Window: n}})
	c.Routes = append(c.Routes, api.Route{Prefix: "9", Group: n})
	c.Start, c.Pending, c.Timeout, c.Late, c.Queue, c.Retry, c.Tries, c.Cards, c.Numbers = n, n, n, n, n, n, n, n, n
	return c
}

// answers is what all calls answer, as texts.
func answers() []string {
	var l []string
	for _, c := range someConfigs() {
		e, n := route.Right(c)
		l = append(l, fmt.Sprint(e, n))
		for _, g := range c.Groups {
			for many := range 5 {
				k, ok := route.Choose(g, slices.Repeat([]bool{true, false}, many))
				l = append(l, fmt.Sprint(k, ok))
			}
		}
	}
	r := rand.New(rand.NewSource(1509))
	x := route.New[int]()
	for i := range 2000 {
		s := randomText(r)
		v, n, ok := x.Find(s)
		l = append(l, fmt.Sprint(x.Put(randomText(r), i), x.Drop(randomText(r)), v, n, ok, x.Len()))
	}
	return append(l, told(x)...)
}

// TestSameAgain: every call answers, and the same arguments give the same answers, whatever was asked between, and by whom.
func TestSameAgain(t *testing.T) {
	first := answers()
	var group sync.WaitGroup
	for range 4 {
		group.Go(func() {
			if !slices.Equal(first, answers()) {
				t.Error("P4: the same calls answer another thing once more")
			}
		})
	}
	group.Wait()
}

// TestTriesAreTheirOwn: what is done with one does not show in another.
func TestTriesAreTheirOwn(t *testing.T) {
	r := rand.New(rand.NewSource(1510))
	var all []both
	for range 8 {
		all = append(all, newBoth())
	}
	for i := range 3000 {
		b := oneOf(r, all...)
		b.put(t, randomText(r), i)
		b.drop(t, randomText(r))
		oneOf(r, all...).find(t, randomText(r))
		oneOf(r, all...).stands(t)
	}
}

// deepCopy is a configuration that shares no list.
func deepCopy(c api.Config) api.Config {
	c.Dialects, c.Links, c.Groups, c.Routes = slices.Clone(c.Dialects), slices.Clone(c.Links), slices.Clone(c.Groups), slices.Clone(c.Routes)
	for i, d := range c.Dialects {
		c.Dialects[i].Fields, c.Dialects[i].Rules = slices.Clone(d.Fields), slices.Clone(d.Rules)
		for k, r := range d.Rules {
			c.Dialects[i].Rules[k].Must, c.Dialects[i].Rules[k].May = slices.Clone(r.Must), slices.Clone(r.May)
		}
	}
	for i, g := range c.Groups {
		c.Groups[i].Links = slices.Clone(g.Links)
	}
	return c
}

// TestNothingIsWrittenInto: neither what is handed in nor what stands behind it.
func TestNothingIsWrittenInto(t *testing.T) {
	for _, c := range someConfigs() {
		before := deepCopy(c)
		short := c // its lists end ahead of what stands behind them
		short.Dialects, short.Links, short.Groups, short.Routes = c.Dialects[:len(c.Dialects)/2], c.Links[:len(c.Links)/2], c.Groups[:len(c.Groups)/2], c.Routes[:len(c.Routes)/2]
		route.Right(c)
		route.Right(short)
		for _, g := range c.Groups {
			g.Links = g.Links[:len(g.Links)/2]
			route.Choose(g, make([]bool, 3))
		}
		if !reflect.DeepEqual(c, before) {
			t.Errorf("P3: a configuration became another one")
		}
	}
	ready := []bool{false, true, true, false}
	route.Choose(api.Group{Links: []int{0, 3, 1}}, ready[:2])
	if !slices.Equal(ready, []bool{false, true, true, false}) {
		t.Errorf("P3: ready became %v", ready)
	}
}

// TestPrefixesAreNotKept: what becomes of the bytes of a prefix does not show, and what All tells is not changed by what follows.
func TestPrefixesAreNotKept(t *testing.T) {
	x := route.New[int]()
	for i, p := range []string{"4", "4111", "51", "1234567890123456789"} {
		b := []byte(p)
		x.Put(unsafe.String(&b[0], len(b)), i)
		copy(b, "9999999999999999999")
	}
	want := []string{"1234567890123456789 3", "4 0", "4111 1", "51 2"}
	if l := told(x); !slices.Equal(l, want) {
		t.Errorf("P3: All tells %q; must be %q", l, want)
	}
	var prefixes []string
	for p := range x.All() {
		prefixes = append(prefixes, p)
	}
	for p := range x.All() {
		x.Drop(p)
	}
	x.Put("7", 7)
	if !slices.Equal(prefixes, []string{"1234567890123456789", "4", "4111", "51"}) {
		t.Errorf("P3: the prefixes that All told became %q", prefixes)
	}
}

// TestAllLeftEarly: at each place, and gone over again behind that.
func TestAllLeftEarly(t *testing.T) {
	x := laid(t, "0", "00", "01", "4", "41", "4111", "9")
	whole := told(x)
	all := x.All()
	for n := range len(whole) + 2 {
		var l []string
		for p, v := range all {
			if len(l) == n {
				break
			}
			l = append(l, p+" "+v)
		}
		if !slices.Equal(l, whole[:min(n, len(whole))]) {
			t.Errorf("P3: All, left behind %d, tells %q", n, l)
		}
		asked := 0
		all(func(string, string) bool {
			asked++
			return asked < n
		})
		if want := max(1, min(n, len(whole))); asked != want {
			t.Errorf("P3: All goes on: %d asked; must be %d", asked, want)
		}
	}
}

// TestAllWithinItself: each range is its own.
func TestAllWithinItself(t *testing.T) {
	x := laid(t, "0", "01", "4", "4111", "9")
	whole := told(x)
	all := x.All()
	var outer []string
	for p, v := range all {
		outer = append(outer, p+" "+v)
		var inner []string
		for q, w := range all {
			inner = append(inner, q+" "+w)
		}
		if !slices.Equal(inner, whole) {
			t.Errorf("P3: All within itself tells %q", inner)
		}
	}
	if !slices.Equal(outer, whole) {
		t.Errorf("P3: All with itself within it tells %q", outer)
	}
	one, stopOne := iter.Pull2(all)
	two, stopTwo := iter.Pull2(all)
	defer stopOne()
	defer stopTwo()
	for range len(whole) + 1 {
		p, v, ok := one()
		q, w, also := two()
		if p != q || v != w || ok != also {
			t.Errorf("P3: two ranges side by side tell %q and %q", p, q)
		}
	}
}

// TestAllWhileItChanges: a range goes over what there was when it began, not when All was called, and calls within it do not show.
func TestAllWhileItChanges(t *testing.T) {
	r := rand.New(rand.NewSource(1511))
	for range 300 {
		b := newBoth()
		all := b.x.All()
		for i := range r.Intn(40) {
			b.put(t, randomText(r), i)
		}
		want := told(b.x)
		var l []string
		for p, v := range all {
			l = append(l, fmt.Sprint(p, " ", v))
			switch r.Intn(4) {
			case 0:
				b.drop(t, p)
				b.put(t, p, -1)
			case 1:
				b.put(t, p+"0", -2)
				b.put(t, textOf(r, "0149", 1+r.Intn(3)), -3)
			case 2:
				for q := range b.x.All() {
					b.drop(t, q)
				}
			}
			b.find(t, p)
			if r.Intn(4) == 0 {
				b.stands(t)
			}
		}
		if !slices.Equal(l, want) {
			t.Errorf("P3: All tells %q; when it began there was %q", l, want)
		}
		b.stands(t)
		l = nil
		for p, v := range all {
			l = append(l, fmt.Sprint(p, " ", v))
		}
		if want := told(b.x); !slices.Equal(l, want) {
			t.Errorf("P3: All, gone over again, tells %q; must be %q", l, want)
		}
	}
}

// heap is how many bytes are in use.
func heap() int {
	var m runtime.MemStats
	runtime.GC()
	runtime.ReadMemStats(&m)
	return int(m.HeapAlloc)
}

// TestNoMoreIsKept: behind Drop nothing is left, neither the thing nor room for it.
func TestNoMoreIsKept(t *testing.T) {
	x := route.New[*[1000]byte]()
	thing := &[1000]byte{}
	there := weak.Make(thing)
	x.Put("4", nil)
	x.Put("4111", thing)
	thing = nil
	runtime.GC()
	if there.Value() == nil {
		t.Error("15.1: what is laid is gone")
	}
	x.Drop("4111")
	runtime.GC()
	if there.Value() != nil {
		t.Error("15.1: behind Drop a thing is kept")
	}
	r := rand.New(rand.NewSource(1512))
	before := heap()
	for range 50000 {
		p := textOf(r, "0123456789", 19)
		x.Put(p, new([1000]byte))
		x.Drop(p)
	}
	if more := heap() - before; more > 1_000_000 {
		t.Errorf("15.1: behind Put and Drop of 50000 things a trie keeps %d bytes", more)
	}
	if l := told(x); !slices.Equal(l, []string{"4 <nil>"}) {
		t.Errorf("15.1: behind Put and Drop of 50000 things All tells %q", l)
	}
	runtime.KeepAlive(x)
}

// TestManyThings: as many as a program may well have.
func TestManyThings(t *testing.T) {
	x := route.New[int]()
	for i := range 100000 {
		if e := x.Put(fmt.Sprintf("%05d", i), i); e != api.OK {
			t.Fatalf("15.1: Put(%05d) = %d", i, e)
		}
	}
	next := 0
	for p, v := range x.All() {
		if p != fmt.Sprintf("%05d", next) || v != next {
			t.Fatalf("15.3: All tells %d under %q; must be %d", v, p, next)
		}
		next++
	}
	if x.Len() != 100000 || next != 100000 {
		t.Errorf("15.1: Len() = %d, All goes over %d", x.Len(), next)
	}
}

// TestNothingOfEitherKind: lists of nothing, nil or empty, count alike.
func TestNothingOfEitherKind(t *testing.T) {
	for _, x := range turns() {
		c := good()
		x.do(&c)
		for i := range c.Groups {
			if len(c.Groups[i].Links) == 0 {
				c.Groups[i].Links = []int{}
			}
		}
		if c.Dialects == nil {
			c.Dialects = []api.Dialect{}
		}
		if c.Links == nil {
			c.Links = []api.Link{}
		}
		holds(t, x.name, c, x.e, x.n)
	}
	c := good()
	c.Groups, c.Routes = nil, nil
	holds(t, "nil", c, api.OK, 0)
	c.Groups, c.Routes = []api.Group{}, []api.Route{}
	holds(t, "empty", c, api.OK, 0)
	c.Groups = []api.Group{{Name: strings.Repeat("a", 16), Links: []int{}, Standin: api.Limits{Window: 1}}}
	holds(t, "a group of no links", c, api.ErrGroup, 0)
}
