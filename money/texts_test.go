package money_test

import (
	"fmt"
	"math/rand"
	"strconv"
	"strings"
	"testing"

	"turnstile/api"
	"turnstile/money"
)

func checkShow(t *testing.T, units int, currency string) {
	t.Helper()
	want, e := wantShow(units, currency)
	if got, f := money.Show(units, currency); got != want || f != e {
		t.Errorf("7.2: Show(%d, %q) = %q, %d, want %q, %d", units, currency, got, f, want, e)
	}
}

func checkRead(t *testing.T, s, currency string) {
	t.Helper()
	want, e := wantRead(s, currency)
	if got, f := money.Read(s, currency); got != want || f != e {
		t.Errorf("7.3: Read(%q, %q) = %d, %d, want %d, %d", s, currency, got, f, want, e)
	}
}

func TestShowExamples(t *testing.T) {
	for _, k := range []struct {
		units          int
		currency, want string
		e              api.Errno
	}{
		{1234, "840", "12.34", api.OK},
		{5, "414", "0.005", api.OK},
		{1234, "392", "1234", api.OK},
		{0, "978", "0.00", api.OK},
		{0, "392", "0", api.OK},
		{0, "048", "0.000", api.OK},
		{99, "840", "0.99", api.OK},
		{100, "840", "1.00", api.OK},
		{999, "788", "0.999", api.OK},
		{1000, "788", "1.000", api.OK},
		{1010, "512", "1.010", api.OK},
		{most, "410", "999999999999", api.OK},
		{most, "986", "9999999999.99", api.OK},
		{most, "400", "999999999.999", api.OK},
		{-1, "840", "", api.ErrAmount},
		{most + 1, "840", "", api.ErrAmount},
		{-1, "841", "", api.ErrCurrency},
	} {
		if got, e := money.Show(k.units, k.currency); got != k.want || e != k.e {
			t.Errorf("7.2: Show(%d, %q) = %q, %d, want %q, %d", k.units, k.currency, got, e, k.want, k.e)
		}
	}
}

func TestReadExamples(t *testing.T) {
	for _, k := range []struct {
		s, currency string
		want        int
		e           api.Errno
	}{
		{"12.34", "840", 1234, api.OK},
		{"0.005", "414", 5, api.OK},
		{"1234", "392", 1234, api.OK},
		{"0.00", "978", 0, api.OK},
		{"12.3", "840", 0, api.ErrAmount},
		{"012.34", "840", 0, api.ErrAmount},
		{"12.34", "392", 0, api.ErrAmount},
		{"", "840", 0, api.ErrAmount},
		{"", "392", 0, api.ErrAmount},
		{"12.34", "1", 0, api.ErrCurrency},
		{"", "1", 0, api.ErrCurrency},
	} {
		if got, e := money.Read(k.s, k.currency); got != k.want || e != k.e {
			t.Errorf("7.3: Read(%q, %q) = %d, %d, want %d, %d", k.s, k.currency, got, e, k.want, k.e)
		}
	}
}

// TestShowEverywhere: small amounts, edges and wrong ones in each currency.
func TestShowEverywhere(t *testing.T) {
	for _, currency := range append(currencies(), wrongCurrencies()...) {
		for n := range 2200 {
			checkShow(t, n, currency)
		}
		for _, n := range append(edges(), wrongUnits()...) {
			checkShow(t, n, currency)
		}
	}
	r := rand.New(rand.NewSource(72))
	for range 50000 {
		checkShow(t, randomUnits(r), randomCurrency(r))
	}
}

// TestReadAllShortTexts: all of up to five characters out of some that might be taken for others.
func TestReadAllShortTexts(t *testing.T) {
	const chars = "01.9-+_ "
	all := []string{""}
	for from, width := 0, 0; width < 5; width++ {
		to := len(all)
		for ; from < to; from++ {
			for i := range chars {
				all = append(all, all[from]+chars[i:i+1])
			}
		}
	}
	for _, s := range all {
		for _, currency := range []string{"392", "840", "048"} {
			checkRead(t, s, currency)
		}
	}
}

// TestReadChangedTexts: what Show writes, with each byte at each place, cut off, lengthened and with a byte taken out or put in.
func TestReadChangedTexts(t *testing.T) {
	for _, currency := range []string{"392", "840", "048", "841"} {
		for _, n := range []int{0, 1, 9, 10, 99, 100, 1000, 12345, 987654321, most - 1, most} {
			s, _ := wantShow(n, currency)
			for at := range len(s) + 1 {
				checkRead(t, s[:at], currency)
				checkRead(t, s[at:], currency)
				for c := range 256 {
					checkRead(t, s[:at]+string([]byte{byte(c)})+s[at:], currency)
					if at < len(s) {
						checkRead(t, withByte(s, at, byte(c)), currency)
					}
				}
				if at < len(s) {
					checkRead(t, s[:at]+s[at+1:], currency)
				}
			}
		}
	}
}

// TestReadOfOtherCurrencies: what is written in one currency, read in each other one.
func TestReadOfOtherCurrencies(t *testing.T) {
	for _, currency := range append(currencies(), wrongCurrencies()...) {
		for _, n := range edges() {
			for _, other := range []string{"410", "036", "788"} {
				s, _ := wantShow(n, other)
				checkRead(t, s, currency)
			}
		}
	}
}

// TestReadLongTexts: numbers that are no amounts, those beyond 64 bits too, and noughts ahead of or behind what is one.
func TestReadLongTexts(t *testing.T) {
	for _, currency := range []string{"392", "840", "048"} {
		for _, n := range wrongUnits() {
			s := strconv.Itoa(n)
			checkRead(t, s, currency)
			for places := range min(len(s), 5) {
				checkRead(t, s[:len(s)-places]+"."+s[len(s)-places:], currency)
			}
		}
		for n := range 70 {
			for _, digit := range []string{"0", "1", "9"} {
				for _, behind := range []string{"", ".", ".00", ".000", ".99", ".0000", "9.00", "1.000"} {
					checkRead(t, strings.Repeat(digit, n)+behind, currency)
					checkRead(t, "1"+strings.Repeat(digit, n)+behind, currency)
				}
			}
		}
		for _, s := range []string{"18446744073709551616", "184467440737095516.16", "18446744073709551.616", "18446744073709551617", "18446744073709551.617", "9223372036854775808", "-9223372036854775808", "4294967296.00"} {
			checkRead(t, s, currency)
		}
		checkRead(t, strings.Repeat("9", 100000), currency)
		checkRead(t, strings.Repeat("0", 100000)+"1.00", currency)
		checkRead(t, strings.Repeat(".", 100000), currency)
	}
}

// TestReadOtherForms: of numbers that other readers take.
func TestReadOtherForms(t *testing.T) {
	for _, s := range []string{"1e2", "1E2", "0x10", "0b1", "0o7", "1_000", "1_0.00", "+1.00", "+1", "-0", "-0.00", "1,00", "1.0.0", "1..00", ".100", ".10", "1.", ".", "..", "Inf", "NaN", "１", "1.00\n", "\n1.00", "1.00\x00", " 1.00", "$1.00", "1.000", "10.0", "100."} {
		for _, currency := range []string{"392", "840", "048", "", "999"} {
			checkRead(t, s, currency)
		}
	}
}

func TestManyReads(t *testing.T) {
	r := rand.New(rand.NewSource(73))
	for range 50000 {
		n, places := randomUnits(r), r.Intn(5)
		if places == 0 {
			checkRead(t, strconv.Itoa(n), randomCurrency(r))
			continue
		}
		scale := [5]int{0, 10, 100, 1000, 10000}[places]
		checkRead(t, fmt.Sprintf("%d.%0*d", n/scale, places, n%scale), randomCurrency(r))
	}
}
