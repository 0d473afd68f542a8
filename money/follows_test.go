package money_test

import (
	"math/big"
	"math/rand"
	"slices"
	"testing"

	"turnstile/api"
	"turnstile/money"
)

// What follows (7.7), asked of the package alone where it can be.

func TestAmountsComeBack(t *testing.T) {
	r := rand.New(rand.NewSource(77))
	for range 30000 {
		n, currency := randomUnits(r), randomCurrency(r)
		s, e := money.Show(n, currency)
		if e != api.OK {
			t.Fatalf("7.2: Show(%d, %q): %d", n, currency, e)
		}
		if back, e := money.Read(s, currency); back != n || e != api.OK {
			t.Errorf("7.7: Read of Show(%d, %q) = %d, %d", n, currency, back, e)
		}
	}
}

// TestTextsComeBack: whatever Read takes, of texts that are nearly right.
func TestTextsComeBack(t *testing.T) {
	r := rand.New(rand.NewSource(78))
	taken := 0
	for range 100000 {
		currency := randomCurrency(r)
		s, _ := wantShow(randomUnits(r), currency)
		if r.Intn(2) == 0 {
			s = withByte(s, r.Intn(len(s)), "0123456789.+-_ "[r.Intn(15)])
		}
		n, e := money.Read(s, currency)
		if e != api.OK {
			continue
		}
		taken++
		if back, e := money.Show(n, currency); back != s || e != api.OK {
			t.Errorf("7.7: Show of Read(%q, %q) = %q, %d", s, currency, back, e)
		}
	}
	if taken < 60000 {
		t.Errorf("the test took %d texts only", taken)
	}
}

func TestNeverMoreThanHalfAway(t *testing.T) {
	r := rand.New(rand.NewSource(79))
	half := big.NewRat(1, 2)
	taken := 0
	for range 50000 {
		units, from, to, rate := randomUnits(r), randomCurrency(r), randomCurrency(r), randomRate(r)
		got, e := money.Convert(units, from, to, rate)
		if e != api.OK {
			continue
		}
		taken++
		away := new(big.Rat).Sub(new(big.Rat).SetInt64(int64(got)), exact(units, from, to, rate))
		if away.Abs(away).Cmp(half) > 0 {
			t.Errorf("7.7: Convert(%d, %q, %q, %q) = %d is %s away", units, from, to, rate, got, away)
		}
	}
	if taken < 20000 {
		t.Errorf("the test took %d conversions only", taken)
	}
}

// TestMoreNeverBecomesFewer: and once it is too much, more is too much too.
func TestMoreNeverBecomesFewer(t *testing.T) {
	r := rand.New(rand.NewSource(80))
	for range 500 {
		from, to, rate := randomCurrency(r), randomCurrency(r), randomRate(r)
		units := []int{}
		for range 40 {
			n := randomUnits(r)
			units = append(units, n, min(n+1, most), min(n+2, most))
		}
		slices.Sort(units)
		last, over := 0, false
		for _, n := range units {
			got, e := money.Convert(n, from, to, rate)
			if e == api.ErrOver {
				over = true
				continue
			}
			if over || got < last {
				t.Errorf("7.7: Convert(%d, %q, %q, %q) = %d, %d, of fewer %d", n, from, to, rate, got, e, last)
			}
			last = got
		}
	}
}

func TestByOneAnAmountIsItself(t *testing.T) {
	r := rand.New(rand.NewSource(81))
	for _, currency := range currencies() {
		units := edges()
		for range 200 {
			units = append(units, randomUnits(r))
		}
		for _, n := range units {
			for _, rate := range []string{"00000001", "10000010", "61000000"} {
				if got, e := money.Convert(n, currency, currency, rate); got != n || e != api.OK {
					t.Errorf("7.7: Convert(%d, %q, %q, %q) = %d, %d", n, currency, currency, rate, got, e)
				}
			}
		}
	}
}

func TestSharesAreFair(t *testing.T) {
	r := rand.New(rand.NewSource(82))
	for range 5000 {
		units, weights := randomUnits(r), randomWeights(r)
		shares, e := money.Share(units, weights...)
		if e != api.OK || len(shares) != len(weights) {
			t.Fatalf("7.5: Share(%d, %v) = %v, %d", units, weights, shares, e)
		}
		if total, e := money.Sum(shares...); total != units || e != api.OK {
			t.Errorf("7.7: Share(%d, %v) are together %d, %d", units, weights, total, e)
		}
		all := 0
		for _, w := range weights {
			all += w
		}
		for i, w := range weights {
			even := units * w // below 10 to the 18
			if away := shares[i]*all - even; away >= all || away <= -all {
				t.Errorf("7.7: Share(%d, %v): %d of %d is one or more away", units, weights, shares[i], w)
			}
			if w == 0 && shares[i] != 0 {
				t.Errorf("7.7: Share(%d, %v): %d of nothing", units, weights, shares[i])
			}
			for j, v := range weights {
				if (w > v || w == v && i < j) && shares[i] < shares[j] {
					t.Errorf("7.7: Share(%d, %v): %d at %d, but %d at %d", units, weights, shares[i], i, shares[j], j)
				}
			}
		}
	}
}

func TestSumInAnyOrder(t *testing.T) {
	r := rand.New(rand.NewSource(83))
	for range 5000 {
		units := make([]int, r.Intn(10))
		for i := range units {
			units[i] = randomUnits(r) / (1 + r.Intn(10))
			if r.Intn(60) == 0 {
				units[i] = wrongUnits()[r.Intn(len(wrongUnits()))]
			}
		}
		want, e := money.Sum(units...)
		for range 10 {
			r.Shuffle(len(units), func(i, j int) { units[i], units[j] = units[j], units[i] })
			if got, f := money.Sum(units...); got != want || f != e {
				t.Errorf("7.7: Sum(%v) = %d, %d, in another order %d, %d", units, got, f, want, e)
			}
		}
	}
}
