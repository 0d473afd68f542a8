package stan_test

import (
	"math/rand"
	"slices"
	"testing"

	"turnstile/api"
	"turnstile/message"
	"turnstile/stan"
)

// A second reading of the chapter: numbers as a list of those that are out, gone through one by one; an echo as whole messages.

type dealing struct {
	most, last int
	out        []int
}

func (d *dealing) take() (int, api.Errno) {
	for i := range d.most {
		k := d.last + 1 + i
		if k > d.most {
			k -= d.most
		}
		if !slices.Contains(d.out, k) {
			d.out = append(d.out, k)
			d.last = k
			return k, api.OK
		}
	}
	return 0, api.ErrSpent
}

func (d *dealing) free(k int) api.Errno {
	at := slices.Index(d.out, k)
	if at < 0 {
		return api.ErrFree
	}
	d.out = slices.Delete(d.out, at, at+1)
	return api.OK
}

// pair is numbers, and what the chapter says of them.
type pair struct {
	t *testing.T
	n *stan.Numbers
	d dealing

	dealt, spent, freed, refused int // how often that was seen
}

func newPair(t *testing.T, most int) *pair {
	t.Helper()
	return &pair{t: t, n: made(t, most), d: dealing{most: most}}
}

func (p *pair) take() {
	p.t.Helper()
	k, e := p.n.Take()
	if m, f := p.d.take(); k != m || e != f {
		p.t.Fatalf("18.2: Take() = %d, %d; must be %d, %d: of %d %v are out", k, e, m, f, p.d.most, p.d.out)
	}
	if e == api.OK {
		p.dealt++
	} else {
		p.spent++
	}
}

func (p *pair) free(k int) {
	p.t.Helper()
	e := p.n.Free(k)
	if f := p.d.free(k); e != f {
		p.t.Fatalf("18.2: Free(%d) = %d; must be %d", k, e, f)
	}
	if e == api.OK {
		p.freed++
	} else {
		p.refused++
	}
}

func (p *pair) stands() {
	p.t.Helper()
	out(p.t, p.n, p.d.most, p.d.out...)
}

// anything does one thing; it is mostly a Take, if fill is true, and mostly a Free otherwise.
func (p *pair) anything(r *rand.Rand, fill bool) {
	p.t.Helper()
	switch {
	case r.Intn(10) == 0:
		p.free(r.Intn(p.d.most+4) - 1)
	case fill == (r.Intn(5) > 0):
		p.take()
	case len(p.d.out) > 0:
		p.free(oneOf(r, p.d.out...))
	default:
		p.free(oneOf(r, edges...))
	}
	if p.n.Len() != len(p.d.out) {
		p.t.Fatalf("18.2: Len() = %d; must be %d", p.n.Len(), len(p.d.out))
	}
}

// keeping is what an echo keeps: of each number the message as it was saved.
type keeping struct {
	fields []int
	saved  map[int]api.Message
}

func (k *keeping) save(number int, m api.Message) api.Errno {
	if number < 1 || number > 999999 {
		return api.ErrArg
	}
	if _, ok := k.saved[number]; ok {
		return api.ErrTwice
	}
	if !message.Whole(m) {
		return api.ErrMessage
	}
	k.saved[number] = m
	return api.OK
}

// restore asks of each field that there is from which of the two messages it comes.
func (k *keeping) restore(number int, m api.Message) (api.Message, bool) {
	old, ok := k.saved[number]
	if !ok || !message.Whole(m) {
		return m, false
	}
	c := of(m.MTI)
	for n := 2; n <= 128; n++ {
		from := m
		if slices.Contains(k.fields, n) {
			from = old
		}
		for _, f := range from.Fields {
			if f.Number == n {
				c.Fields = append(c.Fields, f)
			}
		}
	}
	return c, true
}

func (k *keeping) drop(number int) bool {
	_, ok := k.saved[number]
	delete(k.saved, number)
	return ok
}

// both is an echo, and what the chapter says of it.
type both struct {
	t *testing.T
	e *stan.Echo
	k keeping

	saved, restored, dropped, refused int // how often that was seen
}

func newBoth(t *testing.T, fields ...int) *both {
	t.Helper()
	return &both{t: t, e: echoOf(t, fields...), k: keeping{fields: fields, saved: map[int]api.Message{}}}
}

func (b *both) save(number int, m api.Message) {
	b.t.Helper()
	want := b.k.save(number, m)
	saves(b.t, b.e, number, m, want)
	if want == api.OK {
		b.saved++
	} else {
		b.refused++
	}
}

func (b *both) restore(number int, m api.Message) {
	b.t.Helper()
	want, ok := b.k.restore(number, m)
	restores(b.t, b.e, number, m, want, ok)
	if ok {
		b.restored++
	}
}

func (b *both) drop(number int) {
	b.t.Helper()
	want := b.k.drop(number)
	drops(b.t, b.e, number, want)
	if want {
		b.dropped++
	}
}

// anything does one thing, under one of few numbers or any.
func (b *both) anything(r *rand.Rand) {
	b.t.Helper()
	number := oneOf(r, 1+r.Intn(6), 1+r.Intn(6), 999994+r.Intn(8), oneOf(r, edges...))
	switch r.Intn(5) {
	case 0, 1:
		b.save(number, someMessage(r))
	case 2, 3:
		b.restore(number, someMessage(r))
	case 4:
		b.drop(number)
	}
	lasts(b.t, b.e, len(b.k.saved))
}
