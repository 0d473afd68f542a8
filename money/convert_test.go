package money_test

import (
	"fmt"
	"math"
	"math/rand"
	"strings"
	"testing"

	"turnstile/api"
	"turnstile/money"
)

func checkConvert(t *testing.T, units int, from, to, rate string) {
	t.Helper()
	want, e := wantConvert(units, from, to, rate)
	if got, f := money.Convert(units, from, to, rate); got != want || f != e {
		t.Errorf("7.4: Convert(%d, %q, %q, %q) = %d, %d, want %d, %d", units, from, to, rate, got, f, want, e)
	}
}

func TestConvertExamples(t *testing.T) {
	for _, k := range []struct {
		units          int
		from, to, rate string
		want           int
		e              api.Errno
	}{
		{1000, "840", "978", "40009200", 920, api.OK},
		{1000, "840", "392", "20015025", 1502, api.OK},
		{1001, "840", "392", "20015025", 1504, api.OK},
		{100, "392", "414", "62010000", 201000, api.OK},
		{1, "840", "840", "10000005", 0, api.OK},
		{3, "840", "840", "10000005", 2, api.OK},
		{5, "840", "840", "10000005", 2, api.OK},
		{7, "840", "840", "10000005", 4, api.OK},
		{0, "392", "414", "09999999", 0, api.OK},
		{999999999, "392", "414", "00000001", 999999999000, api.OK},
		{1000000000, "392", "414", "00000001", 0, api.ErrOver},
		{most, "414", "392", "00000001", 1000000000, api.OK},
		{most, "840", "840", "00000001", most, api.OK},
		{most, "840", "840", "00000002", 0, api.ErrOver},
		{most, "392", "414", "09999999", 0, api.ErrOver},
		{1, "840", "978", "80000001", 0, api.ErrRate},
		{1, "840", "978", "00000000", 0, api.ErrRate},
		{1, "840", "978", "70000000", 0, api.ErrRate},
		{1, "840", "978", "1", 0, api.ErrRate},
	} {
		if got, e := money.Convert(k.units, k.from, k.to, k.rate); got != k.want || e != k.e {
			t.Errorf("7.4: Convert(%d, %q, %q, %q) = %d, %d, want %d, %d", k.units, k.from, k.to, k.rate, got, e, k.want, k.e)
		}
	}
}

// TestConvertBetweenAll: from each currency to each, by each number of a rate's places.
func TestConvertBetweenAll(t *testing.T) {
	for _, from := range currencies() {
		for _, to := range currencies() {
			for p := range 8 {
				for _, n := range []int{1, 5, 12345, 9999999} {
					for _, units := range []int{1, 15, 99999, most} {
						checkConvert(t, units, from, to, fmt.Sprintf("%d%07d", p, n))
					}
				}
			}
		}
	}
}

// TestConvertRounds: at the halves, and one to each side of them, by all numbers of places that a result can lose.
func TestConvertRounds(t *testing.T) {
	for _, k := range []struct{ from, to string }{{"840", "840"}, {"392", "840"}, {"414", "392"}, {"048", "036"}, {"392", "788"}, {"840", "392"}} {
		old, _ := wantPlaces(k.from)
		places, _ := wantPlaces(k.to)
		for p := range 8 {
			lost := p + old - places
			if lost < 1 {
				continue
			}
			half := 5 * int(math.Pow10(lost-1))
			for whole := range 40 {
				for beside := -2; beside <= 2; beside++ {
					checkConvert(t, half*(2*whole+1)+beside, k.from, k.to, fmt.Sprintf("%d0000001", p))
				}
			}
		}
	}
}

// TestConvertHalvesGoToEven: within one currency, by a half.
func TestConvertHalvesGoToEven(t *testing.T) {
	for n := range 1000 {
		want := n / 2
		if n%4 == 3 {
			want++
		}
		if got, e := money.Convert(n, "978", "978", "10000005"); got != want || e != api.OK {
			t.Errorf("7.4: half of %d = %d, %d, want %d", n, got, e, want)
		}
	}
}

// TestConvertAtTheGreatest: what rounds down to the greatest amount still is one, what rounds up beyond it is none.
func TestConvertAtTheGreatest(t *testing.T) {
	for _, from := range []string{"392", "840", "048"} {
		for _, to := range []string{"410", "978", "788"} {
			old, _ := wantPlaces(from)
			places, _ := wantPlaces(to)
			for p := range 8 {
				for _, n := range []int{1, 2, 3, 7, 9, 10, 1000, 9999998, 9999999, 1000000, 1000001, 5000005} {
					turn := most / float64(n) * math.Pow10(p+old-places)
					if turn > most {
						turn = most
					}
					for beside := -3; beside <= 3; beside++ {
						checkConvert(t, int(turn)+beside, from, to, fmt.Sprintf("%d%07d", p, n))
					}
				}
			}
		}
	}
	for _, k := range []struct {
		units int
		rate  string
		want  int
		e     api.Errno
	}{
		{999999000000, "61000001", most, api.OK},
		{999999000001, "61000001", 0, api.ErrOver},
		{91743119266, "10000109", most, api.OK},      // most and 0.4
		{2608922515, "10003833", 0, api.ErrOver},     // most and 0.5: the even one is beyond it
		{833333333333, "10000012", 0, api.ErrOver},   // most and 0.6
		{666666666666, "10000015", most, api.OK},     // most itself
		{666666666667, "10000015", 0, api.ErrOver},   // most and 1.5
		{833333333332, "10000012", most - 1, api.OK}, // most less 0.6
	} {
		if got, e := money.Convert(k.units, "840", "840", k.rate); got != k.want || e != k.e {
			t.Errorf("7.4: Convert(%d, 840, 840, %q) = %d, %d, want %d, %d", k.units, k.rate, got, e, k.want, k.e)
		}
	}
}

func TestManyConversions(t *testing.T) {
	r := rand.New(rand.NewSource(74))
	over := 0
	for range 100000 {
		units, from, to, rate := randomUnits(r), randomCurrency(r), randomCurrency(r), randomRate(r)
		checkConvert(t, units, from, to, rate)
		if _, e := wantConvert(units, from, to, rate); e == api.ErrOver {
			over++
		}
	}
	if over < 1000 || over > 90000 {
		t.Errorf("the test saw %d that are too much", over)
	}
}

// TestConvertAsksForTheRate: its length, and each byte at each place.
func TestConvertAsksForTheRate(t *testing.T) {
	for _, rate := range []string{"00000001", "71234567", "49999999", "00000000", "70000000", "10000000"} {
		for at := range rate {
			checkConvert(t, 10000, "840", "978", rate[:at])
			checkConvert(t, 10000, "840", "978", rate[at+1:])
			for c := range 256 {
				checkConvert(t, 10000, "840", "978", withByte(rate, at, byte(c)))
			}
		}
		for c := range 256 {
			checkConvert(t, 10000, "840", "978", rate+string([]byte{byte(c)}))
			checkConvert(t, 10000, "840", "978", string([]byte{byte(c)})+rate)
		}
	}
	for n := range 40 {
		for _, c := range []string{"0", "1", "7", "8"} {
			checkConvert(t, 1, "840", "978", strings.Repeat(c, n))
		}
	}
	for _, rate := range []string{"+0000001", "-0000001", "0+000001", "0-000001", "0 000001", "0_000001", "1.000000", "0x000001", "00000１", strings.Repeat("0", 100000) + "1"} {
		checkConvert(t, 1, "840", "978", rate)
	}
}

func TestConvertAsksForTheAmount(t *testing.T) {
	for _, from := range []string{"392", "840", "048"} {
		for _, to := range []string{"392", "840", "048"} {
			for _, units := range append(edges(), wrongUnits()...) {
				for _, rate := range []string{"00000001", "70000001", "79999999", "09999999", ""} {
					checkConvert(t, units, from, to, rate)
				}
			}
		}
	}
}

// TestConvertTellsTheFirstError: right and wrong ones of each argument, each with each.
func TestConvertTellsTheFirstError(t *testing.T) {
	for _, units := range append([]int{0, 1, most}, wrongUnits()...) {
		for _, from := range append([]string{"392", "840", "048"}, wrongCurrencies()...) {
			for _, to := range append([]string{"392", "840", "048"}, wrongCurrencies()...) {
				for _, rate := range []string{"00000001", "09999999", "00000000", "80000001", "", "x"} {
					checkConvert(t, units, from, to, rate)
				}
			}
		}
	}
}
