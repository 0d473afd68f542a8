package stan_test

import (
	"slices"
	"testing"

	"turnstile/api"
	"turnstile/stan"
)

func TestNew(t *testing.T) {
	for most := -200; most <= 700; most++ {
		holdsNew(t, most)
	}
	for most := 700; most < 1_000_200; most += 9973 {
		holdsNew(t, most)
	}
	for _, most := range append(edges, 1000000-64, 999999-63, 999936, 999935, 999937) {
		holdsNew(t, most)
	}
}

func holdsNew(t *testing.T, most int) {
	t.Helper()
	n, e := stan.New(most)
	if most <= 0 || most >= 1000000 {
		if n != nil || e != api.ErrArg {
			t.Errorf("18.1: New(%d) is %d, and numbers: %v; must be ErrArg, nil", most, e, n != nil)
		}
		return
	}
	if n == nil || e != api.OK {
		t.Fatalf("18.1: New(%d) is %d, and numbers: %v", most, e, n != nil)
	}
	if n.Len() != 0 {
		t.Errorf("18.1: New(%d).Len() = %d", most, n.Len())
	}
	for _, k := range append(edges, most-1, most, most+1) {
		if n.Taken(k) {
			t.Errorf("18.1: of New(%d) %d is out", most, k)
		}
		frees(t, n, api.ErrFree, k)
	}
	takes(t, n, 1)
}

// TestTakeAll: each number once, in order, and then none; a second time round too.
func TestTakeAll(t *testing.T) {
	for _, most := range []int{1, 2, 3, 62, 63, 64, 65, 126, 127, 128, 129, 1000, 4095, 4096, 4097, 65535, 65536, 999935, 999936, 999999} {
		n := made(t, most)
		for range 2 {
			for k := 1; k <= most; k++ {
				if got, e := n.Take(); got != k || e != api.OK || n.Len() != k {
					t.Fatalf("18.2: of %d: Take() = %d, %d, Len %d; must be %d, 0, %d", most, got, e, n.Len(), k, k)
				}
			}
			spent(t, n)
			spent(t, n)
			if n.Len() != most || !n.Taken(1) || !n.Taken(most) || n.Taken(0) || n.Taken(most+1) {
				t.Errorf("18.2: of %d, all out: Len %d", most, n.Len())
			}
			for k := most; k >= 1; k-- {
				if !n.Taken(k) || n.Free(k) != api.OK || n.Taken(k) || n.Len() != k-1 {
					t.Fatalf("18.2: of %d: %d can't be given back, or Len %d", most, k, n.Len())
				}
			}
		}
	}
}

// TestTakeGoesOn: behind the one that was dealt last, though those ahead of it are given back.
func TestTakeGoesOn(t *testing.T) {
	for _, most := range []int{1, 2, 3, 63, 64, 65, 128, 200} {
		n := made(t, most)
		for i := range 3*most + 1 {
			takes(t, n, i%most+1)
			frees(t, n, api.OK, i%most+1)
			out(t, n, most)
		}
	}
}

// TestTakeTheOnlyOne: wherever it is, and whichever was dealt last.
func TestTakeTheOnlyOne(t *testing.T) {
	for _, most := range []int{1, 2, 63, 64, 65, 127, 128, 129, 300} {
		n := made(t, most)
		for range most {
			n.Take()
		}
		for last := 1; last <= most; last++ {
			for k := 1; k <= most; k++ {
				frees(t, n, api.OK, last)
				takes(t, n, last)
				frees(t, n, api.OK, k)
				takes(t, n, k)
				spent(t, n)
			}
		}
	}
}

// TestTakeTheNext: of two that are not out the one that comes first behind the last.
func TestTakeTheNext(t *testing.T) {
	const most = 131
	for last := 1; last <= most; last += 5 {
		for a := 1; a <= most; a += 3 {
			for b := 1; b <= most; b += 7 {
				if a == b || a == last || b == last {
					continue
				}
				n := made(t, most)
				for range most {
					n.Take()
				}
				frees(t, n, api.OK, last)
				takes(t, n, last)
				frees(t, n, api.OK, a, b)
				first, second := a, b
				if (b-last+most)%most < (a-last+most)%most {
					first, second = b, a
				}
				takes(t, n, first, second)
				spent(t, n)
			}
		}
	}
}

// TestTakeBehindTheLastDealt: what was given back, or refused, last does not count.
func TestTakeBehindTheLastDealt(t *testing.T) {
	n := made(t, 6)
	takes(t, n, 1, 2, 3, 4)
	frees(t, n, api.OK, 4)
	takes(t, n, 5)
	frees(t, n, api.OK, 2, 1, 5)
	frees(t, n, api.ErrFree, 6, 2, 0)
	takes(t, n, 6, 1, 2, 4, 5)
	spent(t, n)
	frees(t, n, api.OK, 3, 6)
	changesNothing(t, n)
	takes(t, n, 6, 3)
	spent(t, n)
	frees(t, n, api.OK, 1, 2, 3, 4, 5, 6)
	takes(t, n, 4)
}

// changesNothing asks all that may change nothing.
func changesNothing(t *testing.T, n *stan.Numbers) {
	t.Helper()
	many := n.Len()
	for _, k := range edges {
		n.Taken(k)
		if k < 1 || k > 900000 {
			frees(t, n, api.ErrFree, k)
		}
	}
	if n.Len() != many {
		t.Errorf("18.2: Len became %d", n.Len())
	}
}

// TestFreeAndTakenOfAny: numbers that there are not are not out, though all that there are are.
func TestFreeAndTakenOfAny(t *testing.T) {
	for _, most := range []int{1, 3, 62, 63, 64, 65, 100, 127, 128, 999999} {
		n := made(t, most)
		for range most {
			n.Take()
		}
		for _, k := range slices.Concat(edges, []int{most - 1, most, most + 1, most + 63, most + 64, -most, most | 63, most | 63 + 1}) {
			is := k >= 1 && k <= most
			if n.Taken(k) != is {
				t.Errorf("18.2: of %d, all out: Taken(%d) = %v", most, k, !is)
			}
			if !is {
				frees(t, n, api.ErrFree, k)
			}
		}
		if n.Len() != most {
			t.Errorf("18.2: of %d, all out: Len() = %d", most, n.Len())
		}
		spent(t, n)
	}
}

// TestFreeOne: it alone.
func TestFreeOne(t *testing.T) {
	const most = 150
	for k := 1; k <= most; k++ {
		n := made(t, most)
		var rest []int
		for i := range most {
			n.Take()
			if i+1 != k {
				rest = append(rest, i+1)
			}
		}
		frees(t, n, api.OK, k)
		out(t, n, most, rest...)
		frees(t, n, api.ErrFree, k)
		out(t, n, most, rest...)
	}
}
