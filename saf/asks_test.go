package saf_test

import (
	"math/rand"
	"slices"
	"testing"

	"turnstile/api"
	"turnstile/message"
	"turnstile/saf"
)

// A second reading of the chapter: each advice that was ever put, with all that became of it; what waits is found by going through them.

type entry struct {
	api.Advice
	sent  []int // at which ticks
	under bool  // way
	end   string
}

type reading struct {
	most, retry, tries int
	now                int
	all                []*entry // ever put, in order
	givenUp            []int    // all Numbers ever given up
	told               int      // how many of them Gone told
}

func (m *reading) waits() []*entry {
	return slices.DeleteFunc(slices.Clone(m.all), func(x *entry) bool { return x.end != "" })
}

func (m *reading) first() *entry {
	if l := m.waits(); len(l) > 0 {
		return l[0]
	}
	return nil
}

func (m *reading) put(a api.Advice) api.Errno {
	l := m.waits()
	if len(l) >= m.most {
		return api.ErrQueue
	}
	if slices.ContainsFunc(l, func(x *entry) bool { return x.Number == a.Number }) {
		return api.ErrTwice
	}
	m.all = append(m.all, &entry{Advice: a})
	return api.OK
}

func (m *reading) next(ready bool) (api.Message, bool) {
	if !ready {
		return api.Message{}, false
	}
	for _, x := range m.waits() {
		if x.under && m.now-x.sent[len(x.sent)-1] < m.retry {
			break
		}
		if len(x.sent) == m.tries {
			x.under, x.end = false, "given up"
			m.givenUp = append(m.givenUp, x.Number)
			continue
		}
		x.under, x.sent = true, append(x.sent, m.now)
		if len(x.sent) == 1 {
			return x.Message, true
		}
		return x.Repeat, true
	}
	return api.Message{}, false
}

func (m *reading) answer(number int) bool {
	x := m.first()
	if x == nil || !x.under || x.Number != number {
		return false
	}
	x.under, x.end = false, "answered"
	return true
}

func (m *reading) breaks() {
	if x := m.first(); x != nil {
		x.under = false
	}
}

func (m *reading) gone() []int {
	l := m.givenUp[m.told:]
	m.told = len(m.givenUp)
	return l
}

func (m *reading) waiting() []api.Advice {
	var l []api.Advice
	for _, x := range m.waits() {
		l = append(l, x.Advice)
	}
	return l
}

// both is a queue, and what the chapter says of it.
type both struct {
	t *testing.T
	q *saf.Queue
	m reading

	sent, repeated, silent, answered, unknown, twice, full, gone int // how often that was seen
}

func newBoth(t *testing.T, most, retry, tries int) *both {
	t.Helper()
	return &both{t: t, q: made(t, most, retry, tries), m: reading{most: most, retry: retry, tries: tries}}
}

func same(a, b api.Advice) bool {
	return a.Link == b.Link && a.Number == b.Number && message.Same(a.Message, b.Message) && message.Same(a.Repeat, b.Repeat)
}

func (b *both) put(a api.Advice) {
	b.t.Helper()
	e := b.q.Put(a)
	if f := b.m.put(a); e != f {
		b.t.Fatalf("S2: Put(%.300s) = %d; must be %d", seen(a), e, f)
	}
	switch e {
	case api.ErrTwice:
		b.twice++
	case api.ErrQueue:
		b.full++
	}
}

func (b *both) next(ready bool) {
	b.t.Helper()
	m, ok := b.q.Next(ready)
	n, want := b.m.next(ready)
	if !message.Same(m, n) || ok != want {
		b.t.Fatalf("S3: Next(%v) = %.300s, %v; must be %.300s, %v", ready, seenMessage(m), ok, seenMessage(n), want)
	}
	switch {
	case !ok:
		b.silent++
	case len(b.m.first().sent) == 1:
		b.sent++
	default:
		b.repeated++
	}
}

func (b *both) answer(number int) {
	b.t.Helper()
	got := b.q.Answer(number)
	if want := b.m.answer(number); got != want {
		b.t.Fatalf("S4: Answer(%d) = %v; must be %v", number, got, want)
	}
	if got {
		b.answered++
	} else {
		b.unknown++
	}
}

func (b *both) breaks() {
	b.q.Break()
	b.m.breaks()
}

func (b *both) tick() {
	b.q.Tick()
	b.m.now++
}

func (b *both) asksGone() {
	b.t.Helper()
	l := b.q.Gone()
	if want := b.m.gone(); !slices.Equal(l, want) {
		b.t.Fatalf("S5: Gone is %d; must be %d", l, want)
	}
	b.gone += len(l)
}

func (b *both) counts() {
	b.t.Helper()
	if b.q.Len() != len(b.m.waits()) || b.q.Dead() != min(len(b.m.givenUp), 10000) {
		b.t.Fatalf("S5: Len %d, Dead %d; must be %d, %d", b.q.Len(), b.q.Dead(), len(b.m.waits()), len(b.m.givenUp))
	}
}

// stands asks all that changes nothing.
func (b *both) stands() {
	b.t.Helper()
	b.counts()
	if l, m := b.q.All(), b.m.waiting(); !slices.EqualFunc(l, m, same) {
		b.t.Fatalf("S5: All tells %.300s; must be %.300s", seenAll(l), seenAll(m))
	}
}

// anything does one thing, of any kind.
func (b *both) anything(r *rand.Rand) {
	b.t.Helper()
	switch r.Intn(20) {
	case 0, 1, 2, 3:
		b.put(some(r))
	case 4, 5, 6, 7:
		b.tick()
	case 8, 9, 10, 11, 12, 13:
		b.next(true)
	case 14:
		b.next(false)
	case 15:
		b.answer(r.Intn(9))
	case 16, 17:
		if x := b.m.first(); x != nil {
			b.answer(x.Number)
		}
	case 18:
		b.breaks()
	case 19:
		b.asksGone()
	}
	b.counts()
}
