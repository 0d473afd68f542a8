package core_test

import (
	"fmt"
	"math/rand"
	"slices"
	"strings"
	"testing"

	"turnstile/api"
	"turnstile/core"
	"turnstile/journal"
)

// What follows (C13 to C16, T1 and T3 to T7), without a second reading.

// life is what became of a request that was taken.
type life struct {
	api.Pending
	steady  bool // its link was ready ever since
	answers int
	inTime  bool
	late    bool
	asked   bool // its acquirer asked to take it back
	backs   []int
	cant    int // it was told that it can't be taken back
}

// lives is a player with what became of all requests; their numbers are never dealt twice.
type lives struct {
	*player
	all []*life
}

// begun adds the requests that wait and did not.
func (x *lives) begun() {
	for _, w := range x.s[0].Waiting() {
		if !slices.ContainsFunc(x.all, func(l *life) bool { return l.Number == w.Number }) {
			x.all = append(x.all, &life{Pending: w, steady: true})
		}
	}
}

// of is the request that went with a number.
func (x *lives) of(number string) *life {
	for _, l := range x.all {
		if fmt.Sprintf("%06d", l.Number) == number {
			return l
		}
	}
	return nil
}

// waited holds what became of the requests that wait no more.
func (x *lives) waited(e api.Event, before []api.Pending, out []api.Output) {
	x.t.Helper()
	now := x.s[0].Waiting()
	for _, w := range before {
		if slices.ContainsFunc(now, func(n api.Pending) bool { return n.Number == w.Number }) {
			continue
		}
		l := x.of(fmt.Sprintf("%06d", w.Number))
		l.late, l.inTime = e.Kind == api.EvTick, e.Kind == api.EvBytes
		if !l.late && !l.inTime {
			x.t.Fatalf("T3: a request waits no more behind %+v", e)
		}
		for _, o := range out {
			if l.late && o.Kind == api.OutReject && o.Link == l.To && o.Code == api.ErrQueue {
				l.cant++ // of one of those whose time is over at this tick
			}
		}
	}
}

// answersIn holds the answers among outputs against the requests that they are for.
func (x *lives) answersIn(out []api.Output) {
	x.t.Helper()
	for _, o := range out {
		if o.Kind != api.OutFrame || x.c.Links[o.Link].Role != api.Acquirer {
			continue
		}
		m := x.readMessage(x.t, o.Link, o.Bytes)
		if !slices.Contains([]string{"0110", "0210"}, m.MTI) {
			continue
		}
		for _, l := range x.all {
			if l.From == o.Link && l.Key.Number == value(m, 11) {
				l.answers++
				for _, n := range []int{7, 11, 32, 37} {
					if value(m, n) != value(l.Request, n) {
						x.t.Fatalf("C14: the answer %s has another field %d than the request %s", line(m, plain()), n, line(l.Request, plain()))
					}
				}
			}
		}
	}
}

// backsIn keeps which reversals were laid down, or went out, for which requests. (One that goes out may be given up at the same tick.)
func (x *lives) backsIn(out []api.Output) {
	x.t.Helper()
	for i := range x.c.Links {
		for _, a := range x.s[0].Queued(i) {
			x.backed(i, a.Message)
		}
	}
	for _, o := range out {
		if o.Kind == api.OutFrame && x.c.Links[o.Link].Role == api.Issuer {
			x.backed(o.Link, x.readMessage(x.t, o.Link, o.Bytes))
		}
	}
}

func (x *lives) backed(link int, m api.Message) {
	original, number := value(m, 90), digitsOf(value(m, 11))
	if original == "" {
		return
	}
	if l := x.of(original[4:10]); l != nil && l.To == link && !slices.Contains(l.backs, number) {
		l.backs = append(l.backs, number)
	}
}

func (x *lives) does(e api.Event) {
	x.t.Helper()
	before := x.s[0].Waiting()
	out, _ := x.step(e)
	x.begun()
	x.backsIn(out)
	x.waited(e, before, out)
	x.answersIn(out)
	v := x.s[0].View()
	for _, l := range x.all {
		if !l.inTime && !l.late && !v.Ready[l.From] {
			l.steady = false
		}
	}
	x.bounded()
}

// event is one of a link that comes or goes, a tick, an answer, or a request of a number of its own.
func (x *lives) event(n int) api.Event {
	r, v := x.r, x.s[0].View()
	link := r.Intn(4)
	name := x.c.Links[link].Name
	made := func(s string) api.Event { return x.pair.event(strings.Fields("in " + name + " " + s)) }
	version := fmt.Sprint(x.dialect(link).Version)
	switch {
	case r.Intn(40) == 0 && v.Up[link]:
		return api.Event{Kind: api.EvDown, Link: link}
	case !v.Up[link]:
		return api.Event{Kind: api.EvUp, Link: link}
	case r.Intn(4) == 0:
		return api.Event{Kind: api.EvTick, N: 1}
	case !v.Ready[link] && x.c.Links[link].Role == api.Issuer:
		return made(version + "810 39=00 70=001")
	case !v.Ready[link]:
		return made(version + "800 70=001")
	case x.c.Links[link].Role == api.Issuer && r.Intn(3) == 0:
		for _, a := range x.s[0].Queued(link) {
			return made(fmt.Sprintf("%s430 11=%06d", version, a.Number))
		}
	case x.c.Links[link].Role == api.Issuer:
		for _, w := range x.s[0].Waiting() {
			if w.To == link {
				return made(fmt.Sprintf("%s210 7=0101000000 11=%06d 32=88 37=issuer012345 39=%s", version, w.Number, oneOf(r, "00", "91")))
			}
		}
	}
	if x.c.Links[link].Role == api.Issuer {
		return api.Event{Kind: api.EvTick, N: 1}
	}
	if len(x.all) > 0 && r.Intn(5) == 0 {
		l := oneOf(r, x.all...)
		if l.From == link {
			l.asked = true
			return made(fmt.Sprintf("0420 11=%06d 90=%s%s%s%022d", n, l.Request.MTI, l.Key.Number, l.Key.Stamp, 0))
		}
	}
	return made(fmt.Sprintf("%s 2=%s 4=000000000100 7=1115115958 11=%06d%s", oneOf(r, "0100", "0200", "0201"), oneOf(r, "4111111111111111", "5555555555554444"), n, oneOf(r, "", " 32=99 37=reference012")))
}

// TestLives: T3, T5 and C14.
func TestLives(t *testing.T) {
	r := rand.New(rand.NewSource(2411))
	seen := map[string]int{}
	for range 40 {
		c := someConfig(r)
		c.Dialects, c.Numbers = config().Dialects, 999999
		x := &lives{player: newPlayer(t, r, c)}
		for n := range 400 {
			x.does(x.event(n))
		}
		for range c.Timeout {
			x.does(api.Event{Kind: api.EvTick, N: 1})
		}
		cant := 0
		for _, l := range x.all {
			if l.answers > 1 || l.steady && l.answers != 1 {
				t.Fatalf("T3: a request whose link was ready (%v) got %d answers: %+v", l.steady, l.answers, l.Pending)
			}
			if l.inTime == l.late {
				t.Fatalf("T3: a request waits for ever: %+v", l.Pending)
			}
			if len(l.backs) > 1 || l.late && len(l.backs) == 0 && l.cant == 0 || l.inTime && !l.asked && len(l.backs) > 0 {
				t.Fatalf("T5: a request, late %v, asked to be taken back %v, is taken back by %v, or not (%d): %+v", l.late, l.asked, l.backs, l.cant, l.Pending)
			}
			if l.late && len(l.backs) == 0 {
				cant++
			}
			seen[fmt.Sprint("late ", l.late, " steady ", l.steady, " backs ", len(l.backs))]++
		}
		seen["cant"] += cant
	}
	for _, s := range []string{"late false steady true backs 0", "late false steady true backs 1", "late true steady true backs 0", "late true steady true backs 1", "late true steady false backs 1", "late false steady false backs 0", "cant"} {
		if seen[s] < 10 {
			t.Errorf("the test saw `%s` only %d times: %v", s, seen[s], seen)
		}
	}
}

// TestForgedChangesNothing: C15 and T4: not now, and not later. A twin to which nothing forged comes goes on in the same way.
func TestForgedChangesNothing(t *testing.T) {
	r := rand.New(rand.NewSource(2412))
	forged := 0
	for range 30 {
		c := someConfig(r)
		p, twin := newPlayer(t, r, c), newPair(t, c)
		twin.keys = p.keys
		m := newModel(c)
		for range 250 {
			link := oneOf(r, 2, 3)
			v := p.s[0].View()
			if v.Up[link] && v.Held[link] == 0 {
				b := []byte(p.lax.of(link, message(p.dialect(link), strings.Fields(p.line(link)))))
				at := len(b) - 8
				b[at+r.Intn(8)] ^= byte(1 + r.Intn(255))
				l, _ := p.step(api.Event{Kind: api.EvBytes, Link: link, Bytes: p.wrapped(link, string(b))})
				if len(l) != 1 || l[0].Kind != api.OutReject || l[0].Link != link || l[0].Code == api.ErrSeal && l[0].At != at {
					t.Fatalf("C15: of a frame with a wrong tag comes %+v", l)
				}
				forged++
			}
			e := p.event()
			l, code := p.step(e)
			k, other := twin.step(e)
			if code != other || !slices.Equal(l, k) || fmt.Sprint(p.s[0].View()) != fmt.Sprint(twin.s[0].View()) {
				t.Fatalf("C15: behind a frame with a wrong tag of %+v comes %+v; without it %+v", e, l, k)
			}
			before := slices.Clone(p.keys)
			m.step(e) // it knows the keys
			for i, x := range m.links {
				p.keys[i] = x.Key
			}
			for _, o := range l {
				if slices.Equal(before, p.keys) { // else some may go out ahead of the change
					p.told(t, o)
				}
			}
		}
		p.alike()
	}
	if forged < 1000 {
		t.Errorf("the test saw only %d forged frames", forged)
	}
}

// TestSameAgain: T7: the same events, one by one or at one time, out of a journal or not, give the same outputs.
func TestSameAgain(t *testing.T) {
	r := rand.New(rand.NewSource(2413))
	for range 20 {
		c := someConfig(r)
		p := newPlayer(t, r, c)
		j := journal.New()
		var events []api.Event
		var outputs []api.Output
		for range 200 {
			e := p.event()
			l, code := p.step(e)
			if code != api.OK {
				continue
			}
			events, outputs = append(events, e), append(outputs, l...)
			if err := j.Append(journal.Entry{Event: e, Outputs: l}); err != nil {
				t.Fatal(err)
			}
		}
		for _, stack := range []int{core.Tree, core.Scan} {
			s, _, _ := core.New(c, stack)
			l, e, n := s.Run(events...)
			if e != api.OK || n != len(events) || !slices.Equal(l, outputs) || fmt.Sprint(s.View()) != fmt.Sprint(p.s[0].View()) {
				t.Fatalf("T7: Run of the same events is %s, %d, with %d outputs; must be %d, %d", nameOf(e), n, len(l), len(events), len(outputs))
			}
			s, _, _ = core.New(c, stack)
			opened, _, err := journal.Open(j.Bytes())
			if err != nil || opened.Len() != len(events) {
				t.Fatalf("T7: the journal has %d entries, %v", opened.Len(), err)
			}
			for k, entry := range opened.All() {
				if l, e := s.Step(entry.Event); e != api.OK || !slices.Equal(l, entry.Outputs) {
					t.Fatalf("T7: the entry %d of the journal does not agree with %+v", k, l)
				}
			}
		}
	}
}

// TestSwitchesAreTheirOwn: what is done with one does not show in another of the same configuration.
func TestSwitchesAreTheirOwn(t *testing.T) {
	r := rand.New(rand.NewSource(2414))
	c := someConfig(r)
	var all []*both
	for range 5 {
		all = append(all, newBoth(t, r, c))
	}
	for range 500 {
		oneOf(r, all...).plays()
	}
}
