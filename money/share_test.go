package money_test

import (
	"math"
	"math/rand"
	"slices"
	"testing"

	"turnstile/api"
	"turnstile/money"
)

func checkShare(t *testing.T, units int, weights ...int) {
	t.Helper()
	want, e := wantShare(units, weights)
	if got, f := money.Share(units, weights...); !slices.Equal(got, want) || f != e {
		t.Errorf("7.5: Share(%d, %v) = %v, %d, want %v, %d", units, weights, got, f, want, e)
	}
}

func TestShareExamples(t *testing.T) {
	for _, k := range []struct {
		units   int
		weights []int
		want    []int
		e       api.Errno
	}{
		{100, []int{1, 1, 1}, []int{34, 33, 33}, api.OK},
		{10, []int{0, 3}, []int{0, 10}, api.OK},
		{7, []int{2, 1, 2}, []int{3, 1, 3}, api.OK},
		{6, []int{2, 1, 2}, []int{3, 1, 2}, api.OK},
		{1, []int{1, 2, 1, 2}, []int{0, 1, 0, 0}, api.OK},
		{0, []int{1, 2}, []int{0, 0}, api.OK},
		{most, []int{1000000}, []int{most}, api.OK},
		{most, []int{1000000, 1000000}, []int{500000000000, 499999999999}, api.OK},
		{1, nil, nil, api.ErrArg},
		{1, []int{0}, nil, api.ErrArg},
		{1, []int{-1}, nil, api.ErrArg},
		{1, []int{1, -1}, nil, api.ErrArg},
		{1, []int{1000001}, nil, api.ErrArg},
		{-1, nil, nil, api.ErrAmount},
	} {
		if got, e := money.Share(k.units, k.weights...); !slices.Equal(got, k.want) || e != k.e {
			t.Errorf("7.5: Share(%d, %v) = %v, %d, want %v, %d", k.units, k.weights, got, e, k.want, k.e)
		}
	}
}

// TestShareSmall: all amounts up to 12 by all weights up to 4 of up to four.
func TestShareSmall(t *testing.T) {
	all := [][]int{{}}
	for from, count := 0, 0; count < 4; count++ {
		to := len(all)
		for ; from < to; from++ {
			for w := range 5 {
				all = append(all, append(slices.Clone(all[from]), w))
			}
		}
	}
	for _, weights := range all {
		for units := range 13 {
			checkShare(t, units, weights...)
		}
	}
}

// TestShareCounts: 1 to 100 weights are dealt by, and no others.
func TestShareCounts(t *testing.T) {
	for n := range 210 {
		same, rising, ending := slices.Repeat([]int{1000000}, n), make([]int, n), make([]int, n)
		for i := range rising {
			rising[i] = i
		}
		if n > 0 {
			ending[n-1] = 1
		}
		for _, units := range []int{0, 1, 99, 101, most} {
			checkShare(t, units, same...)
			checkShare(t, units, rising...)
			checkShare(t, units, ending...)
		}
	}
	checkShare(t, 1, make([]int, 100)...)
	checkShare(t, 1, slices.Repeat([]int{-1}, 101)...)
	checkShare(t, 1, slices.Repeat([]int{1}, 1000000)...)
}

// TestShareAsksForTheWeights: each wrong one at each place among right ones, also where all together would be right.
func TestShareAsksForTheWeights(t *testing.T) {
	wrong := []int{-1, -2, -1000000, 1000001, 1000002, 1 << 32, 1<<32 + 1, math.MinInt, math.MinInt + 1, math.MaxInt, math.MaxInt - 1}
	for n := 1; n <= 6; n++ {
		for at := range n {
			for _, w := range wrong {
				weights := slices.Repeat([]int{3}, n)
				weights[at] = w
				checkShare(t, 10, weights...)
				checkShare(t, -1, weights...)
				if at > 0 {
					weights[0] = -w
					checkShare(t, 10, weights...)
				}
			}
			for _, w := range []int{0, 1, 999999, 1000000} {
				weights := slices.Repeat([]int{3}, n)
				weights[at] = w
				checkShare(t, 10, weights...)
				checkShare(t, most, weights...)
			}
		}
	}
}

func TestShareAsksForTheAmount(t *testing.T) {
	for _, units := range append(edges(), wrongUnits()...) {
		checkShare(t, units, 1)
		checkShare(t, units, 1, 1)
		checkShare(t, units, 1000000, 999999, 1)
		checkShare(t, units, 0, 7, 0, 7, 0)
		checkShare(t, units)
		checkShare(t, units, 0)
		checkShare(t, units, -1)
	}
}

func TestManyShares(t *testing.T) {
	r := rand.New(rand.NewSource(75))
	for range 20000 {
		checkShare(t, randomUnits(r), randomWeights(r)...)
	}
}

// randomWeights are right ones; equal ones, noughts and the greatest come often.
func randomWeights(r *rand.Rand) []int {
	l := make([]int, 1+r.Intn(1+r.Intn(100)))
	bound := 1 + r.Intn(int(math.Pow10(r.Intn(7))))
	for i := range l {
		l[i] = r.Intn(bound + 1)
		if r.Intn(20) == 0 {
			l[i] = 1000000
		}
	}
	l[r.Intn(len(l))] = 1 + r.Intn(bound)
	return l
}
