package pending_test

import (
	"math/rand"
	"testing"

	"turnstile/api"
)

// TestAllShort: every list of five things that can be done, held against the second reading at each step.
func TestAllShort(t *testing.T) {
	do := []func(b *both){
		func(b *both) { b.tick() },
		func(b *both) { b.add(request("a", "k", 1, 1)) },
		func(b *both) { b.add(request("b", "l", 1, 2)) },
		func(b *both) { b.add(request("c", "k", 2, 1)) },
		func(b *both) { b.add(request("d", "m", 1, 1)) },
		func(b *both) { b.answer(1, 1) },
		func(b *both) { b.answer(1, 2) },
		func(b *both) { b.answer(2, 1) },
	}
	total := 1
	for range 5 {
		total *= len(do)
	}
	for _, c := range [][3]int{{1, 1, 1}, {1, 1, 3}, {1, 2, 1}, {2, 1, 2}, {2, 2, 2}, {3, 1, 1}} {
		for n := range total {
			b := newBoth(t, c[0], c[1], c[2])
			for i, k := 0, n; i < 5; i, k = i+1, k/len(do) {
				do[k%len(do)](b)
				b.stands()
			}
			for range 5 {
				b.tick()
			}
			b.stands()
		}
	}
}

// TestAnything: long lists, held against the second reading.
func TestAnything(t *testing.T) {
	r := rand.New(rand.NewSource(1901))
	var sum both
	for range 400 {
		b := newBoth(t, oneOf(r, 1, 2, 3, 5, 10), oneOf(r, 1, 2, 3, 6, 20), oneOf(r, 1, 2, 5, 9, 300))
		for i := range 500 {
			b.anything(r)
			if i%20 == 19 {
				b.stands()
			}
		}
		sum.answered, sum.answeredLate, sum.unknown = sum.answered+b.answered, sum.answeredLate+b.answeredLate, sum.unknown+b.unknown
		sum.twice, sum.full, sum.late, sum.gone = sum.twice+b.twice, sum.full+b.full, sum.late+b.late, sum.gone+b.gone
	}
	if sum.answered < 5000 || sum.answeredLate < 3000 || sum.unknown < 5000 || sum.twice < 10000 || sum.full < 5000 || sum.late < 10000 || sum.gone < 5000 {
		t.Errorf("the test saw only %d answered, %d late, %d for nobody; refused %d as twice, %d as too many; %d late, %d gone", sum.answered, sum.answeredLate, sum.unknown, sum.twice, sum.full, sum.late, sum.gone)
	}
}

// life is what became of a request: at which ticks it was added and late, and how it ended.
type life struct {
	added, late int // late 0: it was not
	end         string
}

// lives is a table of which all requests have Numbers of their own, and what became of each.
type lives struct {
	*both
	now int
	all []life // by Number
}

func (l *lives) add() {
	n := len(l.all)
	if l.x.Add(numbered(n)) == api.OK {
		l.all = append(l.all, life{added: l.now})
	}
}

// answer holds that what is answered was not out ahead of that, and comes in its time.
func (l *lives) answer(n int) {
	l.t.Helper()
	_, e := l.x.Answer(1, n)
	w := &l.all[n]
	switch {
	case e == api.OK && w.end == "" && w.late == 0 && l.now < w.added+l.m.timeout:
		w.end = "answered"
	case e == api.ErrLate && w.end == "" && w.late > 0 && l.now < w.late+l.m.late:
		w.end = "late"
	case e == api.ErrNone && w.end != "":
	default:
		l.t.Fatalf("19.6: at %d Answer of %+v is %d", l.now, *w, e)
	}
}

func (l *lives) tick() {
	l.t.Helper()
	l.now++
	late, gone := l.x.Tick()
	for _, p := range late {
		w := &l.all[p.Number]
		if w.end != "" || w.late != 0 || w.added+l.m.timeout != l.now {
			l.t.Fatalf("19.6: at %d %+v is late", l.now, *w)
		}
		w.late = l.now
	}
	for _, p := range gone {
		w := &l.all[p.Number]
		if w.end != "" || w.late == 0 || w.late == l.now || l.now > w.late+l.m.late {
			l.t.Fatalf("19.6: at %d %+v is gone", l.now, *w)
		}
		w.end = "gone"
		if l.now < w.late+l.m.late {
			w.end = "pushed out"
		}
	}
}

// TestLives: what follows, without a second reading: each comes out in one way, in its time, and there are never too many.
func TestLives(t *testing.T) {
	r := rand.New(rand.NewSource(1902))
	ends := map[string]int{}
	for range 200 {
		l := &lives{both: newBoth(t, 1+r.Intn(20), 1+r.Intn(10), 1+r.Intn(10))}
		for range 1000 {
			switch {
			case r.Intn(3) > 0:
				l.add()
			case r.Intn(2) == 0:
				l.tick()
			case len(l.all) > 0:
				l.answer(len(l.all) - 1 - r.Intn(min(30, len(l.all))))
			}
			if l.x.Len() > l.m.most || l.x.Late() > l.m.most {
				t.Fatalf("19.6: of at most %d: Len %d, Late %d", l.m.most, l.x.Len(), l.x.Late())
			}
		}
		for range 20 {
			l.tick()
		}
		stands(t, l.x, 0)
		for n, w := range l.all {
			if w.end == "" {
				t.Fatalf("19.6: the request %d, %+v, never came out", n, w)
			}
			ends[w.end]++
		}
	}
	for _, end := range []string{"answered", "late", "gone", "pushed out"} {
		if ends[end] < 500 {
			t.Errorf("the test saw only %d of the end %q", ends[end], end)
		}
	}
}

// TestNoTwoAlike: no two that wait have one Key, and none of the Numbers that wait or are remembered can be had.
func TestNoTwoAlike(t *testing.T) {
	r := rand.New(rand.NewSource(1903))
	for range 100 {
		b := newBoth(t, 1+r.Intn(10), 1+r.Intn(5), 1+r.Intn(5))
		for range 200 {
			b.anything(r)
			keys := map[api.Key]int{}
			for _, p := range b.x.All() {
				keys[p.Key]++
				if keys[p.Key] > 1 {
					t.Fatalf("19.6: two wait with the Key %+v", p.Key)
				}
				adds(t, b.x, api.ErrTwice, request("x", "another", p.To, p.Number))
			}
			for _, e := range b.m.remembered {
				adds(t, b.x, api.ErrTwice, request("x", "another", e.To, e.Number))
			}
		}
	}
}
