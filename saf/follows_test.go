package saf_test

import (
	"math/rand"
	"testing"

	"turnstile/api"
	"turnstile/message"
)

// TestAllShort: every list of five things that can be done, of an empty queue and of one whose first advice is under way, held against the second reading at each step.
func TestAllShort(t *testing.T) {
	do := []func(b *both){
		func(b *both) { b.tick() },
		func(b *both) { b.put(advice("a", 1)) },
		func(b *both) { b.put(advice("b", 2)) },
		func(b *both) { b.next(true) },
		func(b *both) { b.next(false) },
		func(b *both) { b.answer(1) },
		func(b *both) { b.answer(2) },
		func(b *both) { b.breaks() },
		func(b *both) { b.asksGone() },
	}
	total := 1
	for range 5 {
		total *= len(do)
	}
	for _, c := range [][3]int{{1, 1, 1}, {2, 1, 1}, {2, 1, 2}, {2, 2, 1}} {
		for n := range 2 * total {
			b := newBoth(t, c[0], c[1], c[2])
			if n >= total {
				b.put(advice("c", 1))
				b.put(advice("d", 2))
				b.next(true)
			}
			for i, k := 0, n; i < 5; i, k = i+1, k/len(do) {
				do[k%len(do)](b)
				b.counts()
			}
			b.stands()
			for range 4 {
				b.next(true)
				b.tick()
			}
			b.asksGone()
			b.stands()
		}
	}
}

// TestAnything: long lists, held against the second reading.
func TestAnything(t *testing.T) {
	r := rand.New(rand.NewSource(2001))
	var sum both
	for range 600 {
		b := newBoth(t, oneOf(r, 1, 2, 3, 5, 7), oneOf(r, 1, 2, 3, 6, 20), oneOf(r, 1, 2, 3, 5, 100))
		for i := range 500 {
			b.anything(r)
			if i%20 == 19 {
				b.stands()
			}
		}
		sum.sent, sum.repeated, sum.silent, sum.answered = sum.sent+b.sent, sum.repeated+b.repeated, sum.silent+b.silent, sum.answered+b.answered
		sum.unknown, sum.twice, sum.full, sum.gone = sum.unknown+b.unknown, sum.twice+b.twice, sum.full+b.full, sum.gone+b.gone
	}
	if sum.sent < 10000 || sum.repeated < 5000 || sum.silent < 20000 || sum.answered < 5000 || sum.unknown < 10000 || sum.twice < 5000 || sum.full < 10000 || sum.gone < 2000 {
		t.Errorf("the test saw only %d sent, %d again, %d times nothing; %d answered, %d not; refused %d as twice, %d as too many; %d given up", sum.sent, sum.repeated, sum.silent, sum.answered, sum.unknown, sum.twice, sum.full, sum.gone)
	}
}

// life is what became of an advice: how often it went out, and how it ended.
type life struct {
	sent int
	end  string
}

// lives is a queue of which all advices have Numbers of their own, and what became of each.
type lives struct {
	*both
	all []life // by Number
}

func (l *lives) put() {
	if n := len(l.all); l.q.Put(numbered(n)) == api.OK {
		l.all = append(l.all, life{})
	}
}

// next holds that what goes out waits, that none ahead of it does, and that it goes out no oftener than it may.
func (l *lives) next() {
	l.t.Helper()
	m, ok := l.q.Next(true)
	l.hears()
	if !ok {
		return
	}
	for n := range l.all {
		w := &l.all[n]
		if w.end != "" {
			continue
		}
		w.sent++
		want := numbered(n).Repeat
		if w.sent == 1 {
			want = numbered(n).Message
		}
		if !message.Same(m, want) || w.sent > l.m.tries {
			l.t.Fatalf("S6: %.300s goes out, when the first one is %d, sent %d times with this one", seenMessage(m), n, w.sent)
		}
		return
	}
	l.t.Fatalf("S6: %.300s goes out, when nothing waits", seenMessage(m))
}

// hears holds that what was given up waited, and went out as often as it may.
func (l *lives) hears() {
	l.t.Helper()
	for _, n := range l.q.Gone() {
		w := &l.all[n]
		if w.end != "" || w.sent != l.m.tries {
			l.t.Fatalf("S6: of at most %d times %+v is given up", l.m.tries, *w)
		}
		w.end = "given up"
	}
}

func (l *lives) answer(n int) {
	l.t.Helper()
	if !l.q.Answer(n) {
		return
	}
	w := &l.all[n]
	if w.end != "" || w.sent == 0 {
		l.t.Fatalf("S6: the answer for %+v is taken", *w)
	}
	w.end = "answered"
}

// waits holds that just those wait that were neither answered nor given up, in the order in which they were put.
func (l *lives) waits() {
	l.t.Helper()
	var want []api.Advice
	for n, w := range l.all {
		if w.end == "" {
			want = append(want, numbered(n))
		}
	}
	if l.q.Len() > l.m.most {
		l.t.Fatalf("S6: of at most %d wait %d", l.m.most, l.q.Len())
	}
	stands(l.t, l.q, l.q.Dead(), want...)
}

// TestLives: what follows, without a second reading: each waits, or was answered, or was given up, and only one of these.
func TestLives(t *testing.T) {
	r := rand.New(rand.NewSource(2002))
	ends := map[string]int{}
	for range 200 {
		l := &lives{both: newBoth(t, 1+r.Intn(20), 1+r.Intn(5), 1+r.Intn(5))}
		for i := range 1000 {
			switch r.Intn(12) {
			case 0, 1, 2:
				l.put()
			case 3, 4, 5:
				l.q.Tick()
			case 6, 7, 8:
				l.next()
			case 9, 10:
				if len(l.all) > 0 {
					l.answer(len(l.all) - 1 - r.Intn(min(20, len(l.all))))
				}
			case 11:
				l.q.Break()
			}
			if i%50 == 0 {
				l.waits()
			}
		}
		for l.q.Len() > 0 {
			l.next()
			l.q.Break()
		}
		l.waits()
		dead := 0
		for _, w := range l.all {
			ends[w.end]++
			if w.end == "given up" {
				dead++
			}
		}
		stands(t, l.q, dead)
	}
	if ends["answered"] < 1000 || ends["given up"] < 5000 || ends[""] != 0 {
		t.Errorf("the test saw only the ends %v", ends)
	}
}
