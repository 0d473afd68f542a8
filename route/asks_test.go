package route_test

import (
	"maps"
	"regexp"
	"slices"
	"strings"
	"testing"

	"turnstile/api"
	"turnstile/grammar"
	"turnstile/route"
)

// A second reading of the chapter.

// model is what a trie has laid in it.
type model map[string]int

var manyDigits = regexp.MustCompile(`^[0-9]{1,19}$`)

func (m model) put(prefix string, v int) api.Errno {
	if _, there := m[prefix]; there || !manyDigits.MatchString(prefix) {
		return api.ErrPrefix
	}
	m[prefix] = v
	return api.OK
}

func (m model) drop(prefix string) bool {
	_, there := m[prefix]
	delete(m, prefix)
	return there
}

// find looks at all prefixes.
func (m model) find(text string) (int, int, bool) {
	digits := text[:len(text)-len(strings.TrimLeft(text, "0123456789"))]
	longest := ""
	for p := range m {
		if strings.HasPrefix(digits, p) && len(p) > len(longest) {
			longest = p
		}
	}
	return m[longest], len(longest), longest != ""
}

// both is a trie, and what the chapter says of one.
type both struct {
	x *route.Trie[int]
	m model
}

func newBoth() both { return both{route.New[int](), model{}} }

func (b both) put(t *testing.T, prefix string, v int) api.Errno {
	t.Helper()
	e, want := b.x.Put(prefix, v), b.m.put(prefix, v)
	if e != want {
		t.Errorf("15.1: Put(%.40q) = %d; must be %d", prefix, e, want)
	}
	return e
}

func (b both) drop(t *testing.T, prefix string) bool {
	t.Helper()
	ok, want := b.x.Drop(prefix), b.m.drop(prefix)
	if ok != want {
		t.Errorf("15.1: Drop(%.40q) = %v; must be %v", prefix, ok, want)
	}
	return ok
}

func (b both) find(t *testing.T, text string) {
	t.Helper()
	v, n, ok := b.x.Find(text)
	if wantV, wantN, want := b.m.find(text); v != wantV || n != wantN || ok != want {
		t.Errorf("15.2: Find(%.40q) = %d, %d, %v; must be %d, %d, %v", text, v, n, ok, wantV, wantN, want)
	}
}

// stands holds Len and All against what the chapter says.
func (b both) stands(t *testing.T) {
	t.Helper()
	if n := b.x.Len(); n != len(b.m) {
		t.Errorf("15.1: Len() = %d; must be %d", n, len(b.m))
	}
	var prefixes []string
	for p, v := range b.x.All() {
		prefixes = append(prefixes, p)
		if want, there := b.m[p]; !there || v != want {
			t.Errorf("15.3: All tells %d under %q; must be %d, %v", v, p, want, there)
		}
	}
	if want := slices.Sorted(maps.Keys(b.m)); !slices.Equal(prefixes, want) {
		t.Errorf("15.3: All goes over %q; must be %q", prefixes, want)
	}
}

// fault is an error that Right may tell, and its number.
type fault struct {
	e api.Errno
	n int
}

// faults are all that are wrong with a configuration, as far as they can be told, in the chapter's order.
type faults []fault

func (f *faults) unless(ok bool, e api.Errno, n int) {
	if !ok {
		*f = append(*f, fault{e, n})
	}
}

func wantRight(c api.Config) fault {
	var f faults
	f.dialects(c)
	if len(f) == 0 {
		f.links(c)
	}
	f.groups(c)
	f.routes(c)
	f.numbers(c)
	f.unless(false, api.OK, 0)
	return f[0]
}

func (f *faults) dialects(c api.Config) {
	f.unless(len(c.Dialects) >= 1 && len(c.Dialects) <= 32, api.ErrMany, 0)
	names := map[string]bool{}
	for i, d := range c.Dialects {
		e, _ := grammar.Right(d)
		f.unless(e == api.OK, e, i)
		f.unless(!names[d.Name], api.ErrName, i)
		names[d.Name] = true
	}
}

var (
	nameForm   = regexp.MustCompile(`^[a-z0-9-]{1,16}$`)
	numberForm = regexp.MustCompile(`^[0-9]{1,11}$`)
)

func between(least, n, most int) bool { return n >= least && n <= most }

// links is asked of right dialects alone.
func (f *faults) links(c api.Config) {
	f.unless(len(c.Links) >= 1 && len(c.Links) <= 32, api.ErrMany, 0)
	names := map[string]bool{}
	for i, l := range c.Links {
		f.unless(nameForm.MatchString(l.Name) && !names[l.Name], api.ErrLink, i)
		names[l.Name] = true
		f.unless(l.Role == 1 || l.Role == 2, api.ErrLink, i)
		f.unless(between(0, l.Dialect, len(c.Dialects)-1), api.ErrLink, i)
		f.unless(between(1, l.Header, 4), api.ErrLink, i)
		f.unless(between(1, l.Most, 9999), api.ErrLink, i)
		f.unless(numberForm.MatchString(l.ID), api.ErrLink, i)
		f.unless(sealIsSo(l), api.ErrLink, i)
		f.unless(len(l.PIN) == 0 || len(l.PIN) == 16, api.ErrLink, i)
		f.unless(between(0, l.Echo, 100000) && between(1, l.Answer, 100000), api.ErrLink, i)
		if len(*f) > 0 {
			return // its dialect can't be looked at
		}
		f.dialectOf(l, c.Dialects[l.Dialect], i)
	}
}

func sealIsSo(l api.Link) bool {
	key, exchange := len(l.Key), len(l.Exchange)
	switch l.MAC {
	case 0:
		return l.Pad == 0 && key+exchange == 0
	case 1:
		return (l.Pad == 1 || l.Pad == 2) && key == 8 && (exchange == 0 || exchange == 16)
	case 3:
		return (l.Pad == 1 || l.Pad == 2) && key == 16 && (exchange == 0 || exchange == 16)
	}
	return false
}

func (f *faults) dialectOf(l api.Link, d api.Dialect, i int) {
	if l.MAC != 0 {
		f.unless(d.MAC != 0, api.ErrMAC, i)
		for _, r := range d.Rules {
			f.unless(slices.Index(r.Must, d.MAC) >= 0, api.ErrMAC, i)
		}
	}
	all := wants()
	for _, s := range d.Fields {
		if w, ok := all[s.Number]; ok {
			f.unless(s.Class == w.class && (s.Digits > 0) == w.digits && (w.size == 0 || s.Size == w.size), api.ErrClass, i)
		}
	}
}

func (f *faults) groups(c api.Config) {
	f.unless(len(c.Groups) <= 32, api.ErrMany, 0)
	names := map[string]bool{}
	for i, g := range c.Groups {
		ok := nameForm.MatchString(g.Name) && !names[g.Name] && between(1, len(g.Links), 32)
		names[g.Name] = true
		members := map[int]bool{}
		for _, n := range g.Links {
			ok = ok && between(0, n, len(c.Links)-1) && c.Links[n].Role == 2 && !members[n]
			members[n] = true
		}
		for _, n := range []int{g.Standin.Single, g.Standin.Count, g.Standin.Sum} {
			ok = ok && between(0, n, 999999999999)
		}
		f.unless(ok && between(1, g.Standin.Window, 100000), api.ErrGroup, i)
	}
}

func (f *faults) routes(c api.Config) {
	f.unless(len(c.Routes) <= 4096, api.ErrMany, 0)
	there := map[string]bool{}
	for i, r := range c.Routes {
		f.unless(numberForm.MatchString(r.Prefix) && !there[r.Prefix], api.ErrPrefix, i)
		there[r.Prefix] = true
		f.unless(between(0, r.Group, len(c.Groups)-1), api.ErrGroup, i)
	}
}

func (f *faults) numbers(c api.Config) {
	f.unless(between(0, c.Start, 3155759999), api.ErrConfig, 1)
	f.unless(between(1, c.Pending, 10000), api.ErrConfig, 2)
	f.unless(between(1, c.Timeout, 100000), api.ErrConfig, 3)
	f.unless(between(1, c.Late, 100000), api.ErrConfig, 4)
	f.unless(between(1, c.Queue, 10000), api.ErrConfig, 5)
	f.unless(between(1, c.Retry, 100000), api.ErrConfig, 6)
	f.unless(between(1, c.Tries, 100), api.ErrConfig, 7)
	f.unless(between(1, c.Cards, 10000), api.ErrConfig, 8)
	f.unless(between(1, c.Numbers, 999999), api.ErrConfig, 9)
}
