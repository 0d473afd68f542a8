package money_test

import (
	"math/rand"
	"slices"
	"testing"

	"turnstile/api"
	"turnstile/money"
)

func checkSum(t *testing.T, units ...int) {
	t.Helper()
	want, e := wantSum(units)
	if got, f := money.Sum(units...); got != want || f != e {
		t.Errorf("7.6: Sum(%v) = %d, %d, want %d, %d", units, got, f, want, e)
	}
}

func TestSumExamples(t *testing.T) {
	for _, k := range []struct {
		units []int
		want  int
		e     api.Errno
	}{
		{[]int{1, 2, 3}, 6, api.OK},
		{nil, 0, api.OK},
		{[]int{}, 0, api.OK},
		{[]int{most}, most, api.OK},
		{[]int{most, 0}, most, api.OK},
		{[]int{most - 1, 1}, most, api.OK},
		{[]int{most, 1}, 0, api.ErrOver},
		{[]int{1, most}, 0, api.ErrOver},
		{[]int{most, 1, -1}, 0, api.ErrAmount},
		{[]int{-1, most, 1}, 0, api.ErrAmount},
		{[]int{5, -5}, 0, api.ErrAmount},
		{[]int{most + 1}, 0, api.ErrAmount},
		{[]int{most + 1, -1}, 0, api.ErrAmount},
	} {
		if got, e := money.Sum(k.units...); got != k.want || e != k.e {
			t.Errorf("7.6: Sum(%v) = %d, %d, want %d, %d", k.units, got, e, k.want, k.e)
		}
	}
}

// TestSumAsksForAmounts: each wrong one at each place, also behind what is too much already.
func TestSumAsksForAmounts(t *testing.T) {
	for _, wrong := range wrongUnits() {
		for n := 1; n <= 6; n++ {
			for at := range n {
				for _, right := range []int{0, 7, most} {
					units := slices.Repeat([]int{right}, n)
					checkSum(t, units...)
					units[at] = wrong
					checkSum(t, units...)
				}
			}
		}
		for _, other := range wrongUnits() { // some of these would be right together
			checkSum(t, wrong, other)
		}
	}
}

func TestSumAtTheGreatest(t *testing.T) {
	for _, n := range edges() {
		for beside := -2; beside <= 2; beside++ {
			checkSum(t, n, most-n+beside)
			checkSum(t, most-n+beside, 0, n)
			checkSum(t, n, most-n, beside)
		}
	}
}

// TestSumOfVeryMany: their sum has no room in 64 bits, and what would be left of it there is an amount.
func TestSumOfVeryMany(t *testing.T) {
	units := slices.Repeat([]int{most}, 18446745)
	if got, e := money.Sum(units...); got != 0 || e != api.ErrOver {
		t.Errorf("7.6: Sum of %d of the greatest = %d, %d", len(units), got, e)
	}
	units[len(units)-1] = -1
	if got, e := money.Sum(units...); got != 0 || e != api.ErrAmount {
		t.Errorf("7.6: Sum of %d, the last one wrong = %d, %d", len(units), got, e)
	}
	small := slices.Repeat([]int{1}, 1000000)
	if got, e := money.Sum(small...); got != 1000000 || e != api.OK {
		t.Errorf("7.6: Sum of a million ones = %d, %d", got, e)
	}
}

func TestManySums(t *testing.T) {
	r := rand.New(rand.NewSource(76))
	for range 50000 {
		units := make([]int, r.Intn(12))
		for i := range units {
			units[i] = randomUnits(r) / (1 + r.Intn(20))
		}
		checkSum(t, units...)
	}
}
