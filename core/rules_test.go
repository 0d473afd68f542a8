package core_test

import (
	"cmp"
	"fmt"
	"math/rand"
	"reflect"
	"runtime"
	"slices"
	"strings"
	"sync"
	"testing"
	"unsafe"

	"turnstile/api"
	"turnstile/core"
)

// What holds of all calls (P1 to P5).

// told is what many calls answer, as texts.
func told(t *testing.T) []string {
	var l []string
	r := rand.New(rand.NewSource(2421))
	for range 8 {
		p := newPlayer(t, r, someConfig(r))
		for range 150 {
			out, e := p.step(p.event())
			l = append(l, fmt.Sprint(out, e, p.s[0].View(), p.s[0].Waiting(), p.s[0].Queued(r.Intn(6)-1)))
		}
	}
	return l
}

// TestSameWhoever: the same calls answer the same, whatever was asked between, and by whom.
func TestSameWhoever(t *testing.T) {
	first := told(t)
	var group sync.WaitGroup
	for range 4 {
		group.Go(func() {
			if !slices.Equal(first, told(t)) {
				t.Error("P4: the same calls answer another thing once more")
			}
		})
	}
	group.Wait()
}

// TestAnyEvents: bytes of any kind over all links, events of any numbers: each call ends, and both stacks say the same.
func TestAnyEvents(t *testing.T) {
	r := rand.New(rand.NewSource(2422))
	for range 40 {
		p := newPlayer(t, r, someConfig(r))
		var good []string
		for range 400 {
			e := p.event()
			if e.Kind == api.EvBytes {
				good = append(good, e.Bytes)
			}
			switch r.Intn(6) {
			case 0:
				e = api.Event{Kind: r.Intn(6), Link: r.Intn(6) - 1, N: oneOf(r, 0, 1, 2, 100001), Bytes: textOf(r, r.Intn(30))}
			case 1:
				if len(good) > 0 && e.Kind == api.EvBytes {
					e.Bytes = oneOf(r, good...) // perhaps another link's
				}
			case 2:
				if e.Kind == api.EvBytes {
					e.Bytes = e.Bytes[:min(len(e.Bytes), 4)] + textOf(r, r.Intn(200))
				}
			}
			p.step(e)
		}
		p.alike()
	}
}

// TestAskingChangesNothing: nor do events that are refused.
func TestAskingChangesNothing(t *testing.T) {
	r := rand.New(rand.NewSource(2423))
	for range 10 {
		b := newBoth(t, r, someConfig(r))
		for range 150 {
			b.plays()
			for _, s := range b.s {
				s.View()
				s.Waiting()
				s.Run()
				for n := range 6 {
					s.Queued(n - 1)
				}
				if l, e, n := s.Run(api.Event{Kind: 9}, api.Event{Kind: api.EvTick, N: 1}); l != nil || e != api.ErrEvent || n != 0 {
					t.Fatalf("C3: Run is %v, %s, %d", l, nameOf(e), n)
				}
			}
		}
	}
}

// TestNothingMoreIsExported: the switch has the chapter's calls, and no others.
func TestNothingMoreIsExported(t *testing.T) {
	var names []string
	for m := range reflect.TypeFor[*core.Switch]().Methods() {
		names = append(names, m.Name)
	}
	if want := []string{"Queued", "Run", "Step", "View", "Waiting"}; !slices.Equal(names, want) {
		t.Errorf("24: the switch's calls are %q; must be %q", names, want)
	}
	for f := range reflect.TypeFor[core.Switch]().Fields() {
		if f.IsExported() {
			t.Errorf("24: the switch's field %s is exported", f.Name)
		}
	}
}

// behind is a configuration with what stands behind its lists in their arrays, as a text.
func behind(c api.Config) string {
	var s strings.Builder
	for _, d := range c.Dialects[:cap(c.Dialects)] {
		fmt.Fprint(&s, d.Name, d.Version, d.MTIEnc, d.MapEnc, d.MAC, d.Fields[:cap(d.Fields)])
		for _, r := range d.Rules[:cap(d.Rules)] {
			fmt.Fprint(&s, r.MTI, r.Must[:cap(r.Must)], r.May[:cap(r.May)])
		}
	}
	fmt.Fprint(&s, c.Links[:cap(c.Links)], c.Routes[:cap(c.Routes)])
	for _, g := range c.Groups[:cap(c.Groups)] {
		fmt.Fprint(&s, g.Name, g.Standin, g.Links[:cap(g.Links)])
	}
	fmt.Fprint(&s, c.Start, c.Pending, c.Timeout, c.Late, c.Queue, c.Retry, c.Tries, c.Cards, c.Numbers)
	return s.String()
}

// roomy is a configuration with something behind each list in its array.
func roomy(c api.Config) api.Config {
	c.Dialects = append(slices.Clone(c.Dialects), plain())[:len(c.Dialects)]
	for i := range c.Dialects {
		d := &c.Dialects[i]
		d.Fields = append(slices.Clone(d.Fields), spec(3, 1, 0, 6))[:len(d.Fields)]
		d.Rules = append(slices.Clone(d.Rules), api.Rule{MTI: "behind"})[:len(d.Rules)]
		for k := range d.Rules {
			x := &d.Rules[k]
			x.Must = append(slices.Clone(x.Must), 3)[:len(x.Must)]
			x.May = append(slices.Clone(x.May), 3)[:len(x.May)]
		}
	}
	c.Links = append(slices.Clone(c.Links), api.Link{Name: "behind"})[:len(c.Links)]
	c.Routes = append(slices.Clone(c.Routes), api.Route{Prefix: "9"})[:len(c.Routes)]
	c.Groups = append(slices.Clone(c.Groups), api.Group{Name: "behind"})[:len(c.Groups)]
	for i := range c.Groups {
		g := &c.Groups[i]
		g.Links = append(slices.Clone(g.Links), 0)[:len(g.Links)]
	}
	return c
}

// scribble writes over all lists of a configuration, up to the ends of their arrays.
func scribble(c api.Config) {
	for _, d := range c.Dialects[:cap(c.Dialects)] {
		for _, r := range d.Rules[:cap(d.Rules)] {
			clear(r.Must[:cap(r.Must)])
			clear(r.May[:cap(r.May)])
		}
		clear(d.Rules[:cap(d.Rules)])
		clear(d.Fields[:cap(d.Fields)])
	}
	for _, g := range c.Groups[:cap(c.Groups)] {
		clear(g.Links[:cap(g.Links)])
	}
	clear(c.Dialects[:cap(c.Dialects)])
	clear(c.Links[:cap(c.Links)])
	clear(c.Groups[:cap(c.Groups)])
	clear(c.Routes[:cap(c.Routes)])
}

// TestConfigurationIsNotKept: nor written into.
func TestConfigurationIsNotKept(t *testing.T) {
	r := rand.New(rand.NewSource(2424))
	for range 10 {
		c := someConfig(r)
		b := newBoth(t, r, c)
		for i, stack := range []int{core.Tree, core.Scan} {
			given := roomy(c)
			before := behind(given)
			s, _, _ := core.New(given, stack)
			if behind(given) != before {
				t.Fatal("P3: New writes into what was given")
			}
			scribble(given)
			b.s[i] = s
		}
		for range 200 {
			b.plays()
		}
	}
}

// inBytes is a configuration whose texts all stand in the bytes that are told with it.
func inBytes(c api.Config) (api.Config, []byte) {
	c = roomy(c)
	room := make([]byte, 0, 100_000)
	text := func(s *string) {
		at := len(room)
		room = append(room, *s...)
		if *s != "" {
			*s = unsafe.String(&room[at], len(*s))
		}
	}
	for i := range c.Dialects {
		text(&c.Dialects[i].Name)
		for k := range c.Dialects[i].Rules {
			text(&c.Dialects[i].Rules[k].MTI)
		}
	}
	for i := range c.Links {
		for _, s := range []*string{&c.Links[i].Name, &c.Links[i].ID, &c.Links[i].Key, &c.Links[i].PIN, &c.Links[i].Exchange} {
			text(s)
		}
	}
	for i := range c.Groups {
		text(&c.Groups[i].Name)
	}
	for i := range c.Routes {
		text(&c.Routes[i].Prefix)
	}
	return c, room
}

// TestTextsAreNotKept: of the configuration, and of events; what becomes of their bytes later does not show.
func TestTextsAreNotKept(t *testing.T) {
	r := rand.New(rand.NewSource(2425))
	for range 10 {
		c := someConfig(r)
		b := newBoth(t, r, c)
		for i, stack := range []int{core.Tree, core.Scan} {
			given, room := inBytes(c)
			b.s[i], _, _ = core.New(given, stack)
			clear(room)
		}
		for range 200 {
			e := b.event()
			want, ok := b.m.step(e)
			for i, x := range b.m.links {
				b.keys[i] = x.Key
			}
			for _, s := range b.s {
				room := []byte(e.Bytes)
				given := e
				given.Bytes = unsafe.String(unsafe.SliceData(room), len(room))
				l, code := s.Step(given)
				clear(room)
				if ok != (code == api.OK) || !slices.Equal(l, want) {
					t.Fatalf("P3: when the bytes of texts are written over, of %+v comes %s; must be %s", e, b.lines(l), b.lines(want))
				}
			}
			b.stands()
		}
	}
}

// span is memory that a list or a text has, spare room too.
type span struct{ from, to uintptr }

func listSpan[T any](l []T) span {
	var one T
	from := uintptr(unsafe.Pointer(unsafe.SliceData(l)))
	return span{from, from + uintptr(cap(l))*unsafe.Sizeof(one)}
}

func textSpan(s string) span {
	from := uintptr(unsafe.Pointer(unsafe.StringData(s)))
	return span{from, from + uintptr(len(s))}
}

func messageSpans(m api.Message) []span {
	all := []span{textSpan(m.MTI), listSpan(m.Fields)}
	for _, f := range m.Fields {
		all = append(all, textSpan(f.Value), listSpan(f.Kids))
		for _, k := range f.Kids {
			all = append(all, textSpan(k.Value), listSpan(k.Kids))
		}
	}
	return all
}

func viewSpans(v api.View) []span {
	return []span{listSpan(v.Up), listSpan(v.Ready), listSpan(v.Held), listSpan(v.Queued), listSpan(v.Dead), listSpan(v.Keys), listSpan(v.Counts)}
}

func outputSpans(l []api.Output) []span {
	all := []span{listSpan(l)}
	for _, o := range l {
		all = append(all, textSpan(o.Bytes))
	}
	return all
}

func waitingSpans(l []api.Pending) []span {
	all := []span{listSpan(l)}
	for _, w := range l {
		all = append(all, textSpan(w.Key.Number), textSpan(w.Key.Stamp), textSpan(w.Key.Terminal))
		all = append(append(all, messageSpans(w.Request)...), messageSpans(w.Sent)...)
	}
	return all
}

func queuedSpans(l []api.Advice) []span {
	all := []span{listSpan(l)}
	for _, a := range l {
		all = append(append(all, messageSpans(a.Message)...), messageSpans(a.Repeat)...)
	}
	return all
}

// shared tells whether two of some spans have memory in common.
func shared(l []span) bool {
	l = slices.DeleteFunc(slices.Clone(l), func(s span) bool { return s.from == s.to })
	slices.SortFunc(l, func(a, b span) int { return cmp.Compare(a.from, b.from) })
	for i := 1; i < len(l); i++ {
		if l[i].from < l[i-1].to {
			return true
		}
	}
	return false
}

// TestNewMemory: each time that something is told it is memory of its own.
func TestNewMemory(t *testing.T) {
	r := rand.New(rand.NewSource(2426))
	for range 3 {
		c := someConfig(r)
		p := newPlayer(t, r, c)
		s := p.s[r.Intn(2)]
		var all []span
		var kept []any // memory that is let go of would be told again
		for range 150 {
			e := p.event()
			l, k := []api.Output(nil), []api.Output(nil)
			for _, x := range p.s {
				out, _ := x.Step(e)
				if x == s {
					l = out
				} else {
					k = out
				}
			}
			if !slices.Equal(l, k) {
				t.Fatalf("C13: of %+v with one stack comes %+v; with the other %+v", e, l, k)
			}
			v, w := s.View(), s.Waiting()
			all = append(all, textSpan(e.Bytes))
			all = append(append(append(all, outputSpans(l)...), viewSpans(v)...), waitingSpans(w)...)
			kept = append(kept, e, l, v, w)
			for n := range c.Links {
				q := s.Queued(n)
				all = append(all, queuedSpans(q)...)
				kept = append(kept, q)
			}
		}
		if shared(all) {
			t.Fatal("P3: memory is told twice, or was handed in")
		}
		runtime.KeepAlive(kept)
	}
}

// scribbleMessage writes over a message, up to the ends of its arrays.
func scribbleMessage(m api.Message) {
	l := m.Fields[:cap(m.Fields)]
	for i := range l {
		clear(l[i].Kids[:cap(l[i].Kids)])
	}
	clear(l)
}

// TestWritingShowsNowhere: into what was told, spare room too.
func TestWritingShowsNowhere(t *testing.T) {
	r := rand.New(rand.NewSource(2427))
	for range 10 {
		b := newBoth(t, r, someConfig(r))
		for range 200 {
			e := b.event()
			want, _ := b.m.step(e)
			for i, x := range b.m.links {
				b.keys[i] = x.Key
			}
			for _, s := range b.s {
				l, _ := s.Step(e)
				if !slices.Equal(l, want) {
					t.Fatalf("P3: behind writing of %+v comes %s; must be %s", e, b.lines(l), b.lines(want))
				}
				clear(l[:cap(l)])
				v := s.View()
				clear(v.Up[:cap(v.Up)])
				clear(v.Ready[:cap(v.Ready)])
				clear(v.Held[:cap(v.Held)])
				clear(v.Queued[:cap(v.Queued)])
				clear(v.Dead[:cap(v.Dead)])
				clear(v.Keys[:cap(v.Keys)])
				clear(v.Counts[:cap(v.Counts)])
				for _, w := range s.Waiting() {
					scribbleMessage(w.Request)
					scribbleMessage(w.Sent)
				}
				for n := range b.c.Links {
					q := s.Queued(n)
					for _, a := range q {
						scribbleMessage(a.Message)
						scribbleMessage(a.Repeat)
					}
					clear(q[:cap(q)])
				}
			}
			b.stands()
		}
	}
}

// heap is how many bytes are in use.
func heap() int {
	var m runtime.MemStats
	runtime.GC()
	runtime.ReadMemStats(&m)
	return int(m.HeapAlloc)
}

// TestSwitchStaysSmall: however much goes through it.
func TestSwitchStaysSmall(t *testing.T) {
	c := doc()
	c.Numbers = 100
	s, _, _ := core.New(c, core.Scan)
	x := newFrames(c)
	in := func(link int, words string) {
		t.Helper()
		b := x.wrapped(link, x.of(link, message(x.dialect(link), strings.Fields(words))))
		if _, e := s.Step(api.Event{Kind: api.EvBytes, Link: link, Bytes: b}); e != api.OK {
			t.Fatalf("C2: Step is %s", nameOf(e))
		}
	}
	s.Run(api.Event{Kind: api.EvUp}, api.Event{Kind: api.EvUp, Link: 1})
	in(0, "0800 70=001")
	in(1, "0810 39=00 70=001")
	round := func(n int) {
		t.Helper()
		in(0, fmt.Sprintf("0200 2=4111111111111111 4=000000000001 7=1115115958 11=%06d", n))
		if w := s.Waiting(); len(w) > 0 && n%5 > 0 {
			in(1, fmt.Sprintf("0210 11=%06d 39=00", w[len(w)-1].Number))
		}
		in(0, fmt.Sprintf("0220 2=4111111111111111 11=%06d", n))
		in(0, fmt.Sprintf("0420 11=%06d 90=0200%06d1115115958%022d", n, n, 0))
		for range 2 {
			if q := s.Queued(1); len(q) > 0 {
				in(1, fmt.Sprintf("0230 11=%06d", q[0].Number))
			}
		}
		s.Step(api.Event{Kind: api.EvTick, N: 1})
	}
	for n := range 2000 {
		round(n)
	}
	before := heap()
	for n := range 10000 {
		round(2000 + n)
	}
	if more := heap() - before; more > 300_000 {
		t.Errorf("T6: behind 10000 rounds more a switch keeps %d bytes more", more)
	}
	if v := s.View(); v.Counts[0].Approved < 8000 || v.Counts[0].DebitsBack < 8000 || v.Counts[0].Declined < 2000 {
		t.Errorf("the test saw only %+v", v)
	}
	runtime.KeepAlive(s)
}

// TestGreatest: the greatest configuration that may be, and as much in it as may wait.
func TestGreatest(t *testing.T) {
	c := doc()
	c.Pending, c.Queue, c.Cards, c.Numbers, c.Timeout, c.Late, c.Retry = 10000, 10000, 10000, 999999, 100000, 100000, 100000
	bank := c.Links[1]
	for i := range 30 {
		l := bank
		l.Name, l.Echo, l.Answer = fmt.Sprint("bank-", i), 1, 1000
		c.Links = append(c.Links, l)
	}
	for _, stack := range []int{core.Tree, core.Scan} {
		s, e, n := core.New(c, stack)
		if e != api.OK {
			t.Fatalf("C1: New is %s, %d", nameOf(e), n)
		}
		x := newFrames(c)
		in := func(link int, words string) []api.Output {
			b := x.wrapped(link, x.of(link, message(x.dialect(link), strings.Fields(words))))
			l, _ := s.Step(api.Event{Kind: api.EvBytes, Link: link, Bytes: b})
			return l
		}
		for i := range c.Links {
			s.Step(api.Event{Kind: api.EvUp, Link: i})
		}
		in(0, "0800 70=001")
		in(1, "0810 39=00 70=001")
		for i := range 10001 {
			in(0, fmt.Sprintf("0200 2=4111111111111111 4=000000000001 7=1115115958 11=%06d", i))
			in(0, fmt.Sprintf("0220 2=4111111111111111 11=%06d", i))
			in(0, fmt.Sprintf("0420 11=%06d 90=0200%06d1115115958%022d", i, i, 0))
		}
		if v := s.View(); v.Pending != 10000 || v.Queued[1] != 10000 || v.Counts[0].Declined != 1 || v.Counts[0].Debits != 10000 {
			t.Fatalf("T6: View is %+v", v)
		}
		l, e := s.Step(api.Event{Kind: api.EvTick, N: 100000})
		frames := 0
		for _, o := range l {
			if o.Kind == api.OutFrame && o.Link == 0 {
				frames++
			}
		}
		if v := s.View(); e != api.OK || v.Pending != 0 || v.Late != 10000 || v.Counts[0].Declined != 10001 || frames != 10000 {
			t.Fatalf("T6: behind 100000 ticks View is %+v, with %d answers", v, frames)
		}
	}
}
