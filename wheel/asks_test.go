package wheel_test

import (
	"fmt"
	"math/rand"
	"slices"
	"testing"

	"turnstile/api"
	"turnstile/wheel"
)

// A second reading of the chapter: a list in the order in which things were laid down, and each knows how many ticks it has yet.

type waiting struct {
	timer, left int
	thing       string
}

type reading struct {
	list      []waiting
	now, many int
}

func (m *reading) add(ticks int, v string) (int, api.Errno) {
	if ticks <= 0 || ticks >= 100001 {
		return 0, api.ErrArg
	}
	m.many++
	m.list = append(m.list, waiting{m.many, ticks, v})
	return m.many, api.OK
}

func (m *reading) find(timer int) (int, bool) {
	at := slices.IndexFunc(m.list, func(x waiting) bool { return x.timer == timer })
	return at, at >= 0
}

func (m *reading) cancel(timer int) (string, api.Errno) {
	at, ok := m.find(timer)
	if !ok {
		return "", api.ErrTimer
	}
	v := m.list[at].thing
	m.list = slices.Delete(m.list, at, at+1)
	return v, api.OK
}

func (m *reading) left(timer int) (int, api.Errno) {
	at, ok := m.find(timer)
	if !ok {
		return 0, api.ErrTimer
	}
	return m.list[at].left, api.OK
}

func (m *reading) tick() []string {
	m.now++
	var come []string
	var stay []waiting
	for _, x := range m.list {
		x.left--
		if x.left == 0 {
			come = append(come, x.thing)
		} else {
			stay = append(stay, x)
		}
	}
	m.list = stay
	return come
}

// all takes the smallest each time, the first of several.
func (m *reading) all() []string {
	var l []string
	rest := slices.Clone(m.list)
	for len(rest) > 0 {
		at := 0
		for i, x := range rest {
			if x.left < rest[at].left {
				at = i
			}
		}
		l = append(l, fmt.Sprint(rest[at].timer, " ", rest[at].thing))
		rest = slices.Delete(rest, at, at+1)
	}
	return l
}

// both is a wheel, and what the chapter says of one.
type both struct {
	t *testing.T
	w *wheel.Wheel[string]
	m reading

	came, cancelled, refused int // how often that was seen
}

func newBoth(t *testing.T, slots int) *both {
	t.Helper()
	return &both{t: t, w: made[string](t, slots)}
}

func (b *both) add(ticks int, v string) {
	b.t.Helper()
	n, e := b.w.Add(ticks, v)
	if m, f := b.m.add(ticks, v); n != m || e != f {
		b.t.Fatalf("W2: Add(%d, %q) = %d, %d; must be %d, %d", ticks, v, n, e, m, f)
	}
	if e != api.OK {
		b.refused++
	}
}

func (b *both) cancel(timer int) {
	b.t.Helper()
	v, e := b.w.Cancel(timer)
	if u, f := b.m.cancel(timer); v != u || e != f {
		b.t.Fatalf("W4: Cancel(%d) = %q, %d; must be %q, %d", timer, v, e, u, f)
	}
	if e == api.OK {
		b.cancelled++
	}
}

func (b *both) left(timer int) {
	b.t.Helper()
	n, e := b.w.Left(timer)
	if m, f := b.m.left(timer); n != m || e != f {
		b.t.Fatalf("W4: Left(%d) = %d, %d; must be %d, %d", timer, n, e, m, f)
	}
}

func (b *both) tick() {
	b.t.Helper()
	l := b.w.Tick()
	if m := b.m.tick(); !slices.Equal(l, m) {
		b.t.Fatalf("W3: the tick %d brings %q; must be %q", b.m.now, l, m)
	}
	b.came += len(l)
}

func (b *both) counts() {
	b.t.Helper()
	if b.w.Len() != len(b.m.list) || b.w.Now() != b.m.now {
		b.t.Fatalf("W5: Len %d, Now %d; must be %d, %d", b.w.Len(), b.w.Now(), len(b.m.list), b.m.now)
	}
}

// stands asks all that changes nothing, of each timer that there was and of some that there was not.
func (b *both) stands() {
	b.t.Helper()
	for timer := -1; timer <= b.m.many+2; timer++ {
		b.left(timer)
	}
	b.counts()
	if l, m := told(b.w), b.m.all(); !slices.Equal(l, m) {
		b.t.Fatalf("W5: All tells %q; must be %q", l, m)
	}
}

// anything does one thing, of any kind.
func (b *both) anything(r *rand.Rand) {
	b.t.Helper()
	switch r.Intn(10) {
	case 0, 1, 2, 3:
		b.add(anyTicks(r), fmt.Sprint("thing ", r.Intn(1000)))
	case 4, 5, 6:
		b.tick()
	case 7:
		b.cancel(r.Intn(b.m.many+3) - 1)
	case 8:
		if len(b.m.list) > 0 {
			b.cancel(oneOf(r, b.m.list...).timer)
		}
	case 9:
		b.left(r.Intn(b.m.many+3) - 1)
	}
	b.counts()
}
