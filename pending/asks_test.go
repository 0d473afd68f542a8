package pending_test

import (
	"math/rand"
	"slices"
	"testing"

	"turnstile/api"
	"turnstile/message"
	"turnstile/pending"
)

// A second reading of the chapter: two lists, each in the order in which requests came into it, gone through one by one.

type entry struct {
	api.Pending
	left int // ticks
}

type reading struct {
	most, timeout, late int
	waits, remembered   []entry
}

func sameKey(k api.Key) func(entry) bool { return func(x entry) bool { return x.Key == k } }

func sameName(to, number int) func(entry) bool {
	return func(x entry) bool { return x.To == to && x.Number == number }
}

func (m *reading) add(p api.Pending) api.Errno {
	name := sameName(p.To, p.Number)
	if slices.ContainsFunc(m.waits, sameKey(p.Key)) || slices.ContainsFunc(m.waits, name) || slices.ContainsFunc(m.remembered, name) {
		return api.ErrTwice
	}
	if len(m.waits) >= m.most {
		return api.ErrFull
	}
	m.waits = append(m.waits, entry{p, m.timeout})
	return api.OK
}

func (m *reading) answer(to, number int) (api.Pending, api.Errno) {
	if at := slices.IndexFunc(m.waits, sameName(to, number)); at >= 0 {
		p := m.waits[at].Pending
		m.waits = slices.Delete(m.waits, at, at+1)
		return p, api.OK
	}
	if at := slices.IndexFunc(m.remembered, sameName(to, number)); at >= 0 {
		p := m.remembered[at].Pending
		m.remembered = slices.Delete(m.remembered, at, at+1)
		return p, api.ErrLate
	}
	return api.Pending{}, api.ErrNone
}

// over takes a tick off each, and parts those that have one left from those that have none.
func over(l []entry) (stay []entry, out []api.Pending) {
	for _, x := range l {
		x.left--
		if x.left == 0 {
			out = append(out, x.Pending)
		} else {
			stay = append(stay, x)
		}
	}
	return stay, out
}

func (m *reading) tick() (late, gone []api.Pending) {
	m.remembered, gone = over(m.remembered)
	m.waits, late = over(m.waits)
	for _, p := range late {
		m.remembered = append(m.remembered, entry{p, m.late})
		if len(m.remembered) > m.most {
			gone = append(gone, m.remembered[0].Pending)
			m.remembered = slices.Delete(m.remembered, 0, 1)
		}
	}
	return late, gone
}

func (m *reading) all() []api.Pending {
	var l []api.Pending
	for _, x := range m.waits {
		l = append(l, x.Pending)
	}
	return l
}

// both is a table, and what the chapter says of it.
type both struct {
	t *testing.T
	x *pending.Table
	m reading

	answered, answeredLate, unknown, twice, full, late, gone int // how often that was seen
}

func newBoth(t *testing.T, most, timeout, late int) *both {
	t.Helper()
	return &both{t: t, x: made(t, most, timeout, late), m: reading{most: most, timeout: timeout, late: late}}
}

func same(p, q api.Pending) bool {
	return p.Key == q.Key && p.From == q.From && p.To == q.To && p.Number == q.Number && message.Same(p.Request, q.Request) && message.Same(p.Sent, q.Sent)
}

func (b *both) add(p api.Pending) {
	b.t.Helper()
	e := b.x.Add(p)
	if f := b.m.add(p); e != f {
		b.t.Fatalf("19.2: Add(%.300s) = %d; must be %d", seen(p), e, f)
	}
	switch e {
	case api.ErrTwice:
		b.twice++
	case api.ErrFull:
		b.full++
	}
}

func (b *both) answer(to, number int) {
	b.t.Helper()
	p, e := b.x.Answer(to, number)
	if q, f := b.m.answer(to, number); !same(p, q) || e != f {
		b.t.Fatalf("19.3: Answer(%d, %d) = %.300s, %d; must be %.300s, %d", to, number, seen(p), e, seen(q), f)
	}
	switch e {
	case api.OK:
		b.answered++
	case api.ErrLate:
		b.answeredLate++
	default:
		b.unknown++
	}
}

func (b *both) tick() {
	b.t.Helper()
	late, gone := b.x.Tick()
	l, g := b.m.tick()
	if !slices.EqualFunc(late, l, same) || !slices.EqualFunc(gone, g, same) {
		b.t.Fatalf("19.4: a tick: late %.300s, gone %.300s; must be %.300s, %.300s", seenAll(late), seenAll(gone), seenAll(l), seenAll(g))
	}
	b.late, b.gone = b.late+len(late), b.gone+len(gone)
}

func (b *both) has(k api.Key) {
	b.t.Helper()
	if got := b.x.Has(k); got != slices.ContainsFunc(b.m.waits, sameKey(k)) {
		b.t.Fatalf("19.2: Has(%+v) = %v", k, got)
	}
}

func (b *both) counts() {
	b.t.Helper()
	if b.x.Len() != len(b.m.waits) || b.x.Late() != len(b.m.remembered) {
		b.t.Fatalf("19.5: Len %d, Late %d; must be %d, %d", b.x.Len(), b.x.Late(), len(b.m.waits), len(b.m.remembered))
	}
}

// stands asks all that changes nothing.
func (b *both) stands() {
	b.t.Helper()
	b.counts()
	for _, l := range [][]entry{b.m.waits, b.m.remembered} {
		for _, x := range l {
			b.has(x.Key)
		}
	}
	if l, m := b.x.All(), b.m.all(); !slices.EqualFunc(l, m, same) {
		b.t.Fatalf("19.5: All tells %.300s; must be %.300s", seenAll(l), seenAll(m))
	}
}

// anything does one thing, of any kind.
func (b *both) anything(r *rand.Rand) {
	b.t.Helper()
	switch r.Intn(10) {
	case 0, 1, 2, 3:
		b.add(some(r))
	case 4, 5, 6:
		b.tick()
	case 7:
		b.answer(r.Intn(3), r.Intn(6))
	case 8:
		if l := append(slices.Clone(b.m.remembered), b.m.waits...); len(l) > 0 {
			x := oneOf(r, l...)
			b.answer(x.To, x.Number)
		}
	case 9:
		b.has(some(r).Key)
	}
	b.counts()
}
