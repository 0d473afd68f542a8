package stan_test

import (
	"math/rand"
	"slices"
	"testing"

	"turnstile/api"
)

// TestAllShort: every list of seven things that can be done with few numbers, held against the second reading at each step.
func TestAllShort(t *testing.T) {
	for most := 1; most <= 4; most++ {
		kinds := most + 2 // a Take, and a Free of each number and of one that there is not
		total := 1
		for range 7 {
			total *= kinds
		}
		for n := range total {
			p := newPair(t, most)
			for i, k := 0, n; i < 7; i, k = i+1, k/kinds {
				if k%kinds == 0 {
					p.take()
				} else {
					p.free(k % kinds)
				}
			}
			p.stands()
			p.take()
		}
	}
}

// TestAnything: long lists, in which numbers become fewer and more by turns.
func TestAnything(t *testing.T) {
	r := rand.New(rand.NewSource(1802))
	dealt, spent, freed, refused := 0, 0, 0, 0
	for range 300 {
		p := newPair(t, oneOf(r, 1, 2, 3, 63, 64, 65, 128, 1+r.Intn(10), 1+r.Intn(300)))
		fill := true
		for i := range 1000 {
			if r.Intn(150) == 0 {
				fill = !fill
			}
			p.anything(r, fill)
			if i%100 == 99 {
				p.stands()
			}
		}
		dealt, spent, freed, refused = dealt+p.dealt, spent+p.spent, freed+p.freed, refused+p.refused
	}
	if dealt < 50000 || spent < 5000 || freed < 50000 || refused < 10000 {
		t.Errorf("the test saw only %d that were dealt, %d times none, %d that were given back and %d that were not", dealt, spent, freed, refused)
	}
}

// TestDealtInTurn: what follows of numbers, without a second reading: none is dealt that is out, one is dealt as long as there is one, and between two Takes of a number each other one was dealt, or was out when its turn came.
func TestDealtInTurn(t *testing.T) {
	r := rand.New(rand.NewSource(1803))
	for _, most := range []int{1, 2, 5, 63, 64, 65, 130, 5000} {
		n := made(t, most)
		out := make([]bool, most+1)
		last, many := 0, 0
		for i := range 20000 {
			if k := 1 + r.Intn(most); i/(2*most)%2 == 1 && out[k] || r.Intn(8) == 0 && out[k] {
				frees(t, n, api.OK, k)
				out[k] = false
				many--
				continue
			}
			k, e := n.Take()
			if (e == api.OK) != (many < most) {
				t.Fatalf("18.8: %d of %d are out, and Take() = %d, %d", many, most, k, e)
			}
			if e != api.OK {
				continue
			}
			if k < 1 || k > most || out[k] {
				t.Fatalf("18.8: Take() = %d, which is out or is none", k)
			}
			for passed := last%most + 1; passed != k; passed = passed%most + 1 {
				if !out[passed] {
					t.Fatalf("18.8: Take() = %d behind %d, but it was the turn of %d", k, last, passed)
				}
			}
			out[k], last = true, k
			many++
		}
	}
}

// TestEchoAnything: long lists of things that can be done with an echo, held against the second reading.
func TestEchoAnything(t *testing.T) {
	r := rand.New(rand.NewSource(1804))
	saved, restored, dropped, refused := 0, 0, 0, 0
	for range 200 {
		b := newBoth(t, someFields(r)...)
		for range 200 {
			b.anything(r)
		}
		saved, restored, dropped, refused = saved+b.saved, restored+b.restored, dropped+b.dropped, refused+b.refused
	}
	if saved < 2000 || restored < 2000 || dropped < 1000 || refused < 2000 {
		t.Errorf("the test saw only %d that were saved, %d restored, %d dropped and %d refused", saved, restored, dropped, refused)
	}
}

// TestRestoreOfTheSaved: the message that was saved, under its number, is that message; whatever was saved under others.
func TestRestoreOfTheSaved(t *testing.T) {
	r := rand.New(rand.NewSource(1805))
	for range 200 {
		e := echoOf(t, someFields(r)...)
		var all []api.Message
		for i := range 20 {
			m := wholeMessage(r)
			all = append(all, m)
			saves(t, e, i+1, m, api.OK)
		}
		for _, i := range r.Perm(len(all)) {
			restores(t, e, i+1, all[i], all[i], true)
		}
	}
}

// TestRestoreIsWhole: with just the echo's fields of the one, and the others of the other; their order in NewEcho does not count.
func TestRestoreIsWhole(t *testing.T) {
	r := rand.New(rand.NewSource(1806))
	for range 1000 {
		fields := someFields(r)
		sorted := slices.Sorted(slices.Values(fields))
		one, two := echoOf(t, fields...), echoOf(t, sorted...)
		old, m := wholeMessage(r), wholeMessage(r)
		saves(t, one, 1, old, api.OK)
		saves(t, two, 1, old, api.OK)
		a, _ := one.Restore(1, m)
		b, _ := two.Restore(1, m)
		if seen(a) != seen(b) {
			t.Fatalf("18.7: the order of an echo's fields shows: %s and %s", seen(a), seen(b))
		}
		rises := slices.IsSortedFunc(a.Fields, func(f, g api.Field) int { return f.Number - g.Number })
		many := 0
		for _, f := range old.Fields {
			if slices.Contains(fields, f.Number) {
				many++
			}
		}
		for _, f := range m.Fields {
			if !slices.Contains(fields, f.Number) {
				many++
			}
		}
		if !rises || len(a.Fields) != many {
			t.Fatalf("18.7: of %s and %s, with %v: %s", seen(old), seen(m), fields, seen(a))
		}
	}
}
