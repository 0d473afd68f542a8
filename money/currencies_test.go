package money_test

import (
	"fmt"
	"iter"
	"slices"
	"testing"

	"turnstile/api"
	"turnstile/money"
)

func checkPlaces(t *testing.T, currency string) {
	t.Helper()
	want, e := wantPlaces(currency)
	if got, f := money.Places(currency); got != want || f != e {
		t.Errorf("7.1: Places(%q) = %d, %d, want %d, %d", currency, got, f, want, e)
	}
}

func TestPlacesExamples(t *testing.T) {
	for _, k := range []struct {
		currency string
		want     int
		e        api.Errno
	}{
		{"840", 2, api.OK}, {"392", 0, api.OK}, {"048", 3, api.OK}, {"999", 0, api.ErrCurrency},
	} {
		if got, e := money.Places(k.currency); got != k.want || e != k.e {
			t.Errorf("7.1: Places(%q) = %d, %d, want %d, %d", k.currency, got, e, k.want, k.e)
		}
	}
}

// TestPlacesOfAllDigits: of all texts of up to four digits just those of the table.
func TestPlacesOfAllDigits(t *testing.T) {
	for width := 1; width <= 4; width++ {
		for n := range 10000 {
			checkPlaces(t, fmt.Sprintf("%0*d", width, n))
		}
	}
}

// TestPlacesOfOtherTexts: each byte at each place of each currency, and each currency cut off or with something behind it.
func TestPlacesOfOtherTexts(t *testing.T) {
	for _, currency := range append(currencies(), wrongCurrencies()...) {
		checkPlaces(t, currency)
		for at := range len(currency) {
			checkPlaces(t, currency[:at])
			checkPlaces(t, currency[at:])
			if len(currency) > 3 {
				continue
			}
			for c := range 256 {
				checkPlaces(t, withByte(currency, at, byte(c)))
			}
		}
		for c := range 256 {
			checkPlaces(t, currency+string([]byte{byte(c)}))
			checkPlaces(t, string([]byte{byte(c)})+currency)
		}
	}
}

// TestCurrenciesRise: many times, since a map is ranged over in another order each time.
func TestCurrenciesRise(t *testing.T) {
	want := currencies()
	for range 1000 {
		if got := slices.Collect(money.Currencies()); !slices.Equal(got, want) {
			t.Fatalf("7.1: Currencies = %v, want %v", got, want)
		}
	}
	for currency := range money.Currencies() {
		if _, e := money.Places(currency); e != api.OK {
			t.Errorf("7.1: Places(%q), which Currencies tells: %d", currency, e)
		}
	}
}

func TestCurrenciesLeftEarly(t *testing.T) {
	all := money.Currencies()
	want := currencies()
	for stop := 1; stop <= len(want); stop++ {
		var got []string
		for currency := range all {
			if got = append(got, currency); len(got) == stop {
				break
			}
		}
		if !slices.Equal(got, want[:stop]) {
			t.Errorf("P3: a range that is left after %d: %v", stop, got)
		}
	}
	if got := slices.Collect(all); !slices.Equal(got, want) {
		t.Errorf("P3: gone over again: %v", got)
	}
}

// TestCurrenciesAskNoMore: once it is told to stop, an iterator says nothing more.
func TestCurrenciesAskNoMore(t *testing.T) {
	for stop := 1; stop <= 28; stop++ {
		n := 0
		money.Currencies()(func(string) bool {
			n++
			return n < stop
		})
		if n != min(stop, 27) {
			t.Errorf("P3: told to stop at %d it told %d", stop, n)
		}
	}
}

// TestCurrenciesWithinThemselves: ranges within one another and side by side don't disturb each other.
func TestCurrenciesWithinThemselves(t *testing.T) {
	all := money.Currencies()
	want := currencies()
	var outer []string
	for a := range all {
		outer = append(outer, a)
		if inner := slices.Collect(all); !slices.Equal(inner, want) {
			t.Errorf("P3: the inner range at %q: %v", a, inner)
		}
		for range all {
			break
		}
	}
	if !slices.Equal(outer, want) {
		t.Errorf("P3: the outer range: %v", outer)
	}
	one, stopOne := iter.Pull(all)
	defer stopOne()
	two, stopTwo := iter.Pull(all)
	defer stopTwo()
	one()
	for i := range want[1:] {
		a, ok := one()
		b, also := two()
		if !ok || !also || a != want[i+1] || b != want[i] {
			t.Errorf("P3: two ranges side by side: %q, %q at %d", a, b, i)
		}
	}
}
