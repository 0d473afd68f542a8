package card_test

import (
	"math"
	"regexp"
	"strconv"
	"testing"

	"turnstile/api"
	"turnstile/card"
)

// isMonth is read from the chapter's words.
var isMonth = regexp.MustCompile(`\A[0-9]{2}(0[1-9]|1[0-2])\z`).MatchString

// wrongMonths are no months.
var wrongMonths = []string{"", "3", "30", "301", "30121", "3012 ", " 3012", "3000", "3013", "3020", "3099", "0000", "301a", "30a2", "3a12", "a012", "30/1", "30:1", "301:", "301/", "+112", "-112", "30+1", "30-1", "30 1", "==", "====", "=", "\x00\x00\x00\x01", "\xF3\xF0\xF1\xF2", "20301", "203012"}

func TestExpiredExamples(t *testing.T) {
	for _, c := range []struct {
		expiry      string
		year, month int
		want        bool
		e           api.Errno
	}{
		{"3012", 2030, 12, false, api.OK},
		{"3012", 2031, 1, true, api.OK},
		{"3012", 2030, 11, false, api.OK},
		{"3006", 2030, 6, false, api.OK},
		{"3006", 2030, 7, true, api.OK},
		{"3006", 2029, 12, false, api.OK},
		{"0001", 2000, 1, false, api.OK},
		{"0001", 2000, 2, true, api.OK},
		{"9912", 2099, 12, false, api.OK},
		{"9911", 2099, 12, true, api.OK},
		{"9901", 2000, 12, false, api.OK},
		{"0012", 2099, 1, true, api.OK},
		{"3013", 2030, 1, false, api.ErrExpiry},
		{"301", 2030, 1, false, api.ErrExpiry},
		{"3012", 2100, 1, false, api.ErrArg},
		{"3012", 1999, 12, false, api.ErrArg},
		{"3012", 2030, 0, false, api.ErrArg},
		{"3012", 2031, 13, false, api.ErrArg},
		{"3012", 30, 12, false, api.ErrArg},
		{"3013", 2100, 1, false, api.ErrExpiry},
		{"", 0, 0, false, api.ErrExpiry},
	} {
		if got, e := card.Expired(c.expiry, c.year, c.month); got != c.want || e != c.e {
			t.Errorf("C3: Expired(%q, %d, %d) = %t, %d, want %t, %d", c.expiry, c.year, c.month, got, e, c.want, c.e)
		}
	}
}

// TestExpired: each month that there is, in each month around it and in those of other years.
func TestExpired(t *testing.T) {
	for y := range 100 {
		for m := 1; m <= 12; m++ {
			expiry := strconv.Itoa(10000 + 100*y + m)[1:]
			for year := 2000; year <= 2099; year++ {
				for month := 1; month <= 12; month++ {
					want := 12*year+month > 12*(2000+y)+m
					if got, e := card.Expired(expiry, year, month); got != want || e != api.OK {
						t.Fatalf("C3: Expired(%q, %d, %d) = %t, %d", expiry, year, month, got, e)
					}
				}
			}
		}
	}
}

// TestExpiredOfFourDigits: which are months, and which are none; a track and Expired have the same.
func TestExpiredOfFourDigits(t *testing.T) {
	for n := range 10000 {
		expiry := strconv.Itoa(10000 + n)[1:]
		want := api.OK
		if !isMonth(expiry) {
			want = api.ErrExpiry
		}
		if _, e := card.Expired(expiry, 2050, 6); e != want {
			t.Errorf("C3: Expired(%q, 2050, 6) = _, %d, want %d", expiry, e, want)
		}
		if _, e, _ := card.ReadTrack("1=" + expiry + "="); (e == api.OK) != isMonth(expiry) {
			t.Errorf("C4: ReadTrack(%q) = _, %d", "1="+expiry+"=", e)
		}
	}
}

// TestExpiredOfNoMonth: it is told ahead of wrong numbers.
func TestExpiredOfNoMonth(t *testing.T) {
	for _, expiry := range wrongMonths {
		for _, year := range []int{math.MinInt, 0, 1999, 2000, 2050, 2099, 2100, math.MaxInt} {
			for _, month := range []int{math.MinInt, 0, 1, 12, 13, math.MaxInt} {
				if got, e := card.Expired(expiry, year, month); got || e != api.ErrExpiry {
					t.Errorf("C3: Expired(%q, %d, %d) = %t, %d", expiry, year, month, got, e)
				}
			}
		}
	}
}

// TestExpiredOfWrongNumbers: years and months that may not be, also those that would come right if they went round.
func TestExpiredOfWrongNumbers(t *testing.T) {
	years := []int{math.MinInt, math.MinInt + 2030, -2030, -1, 0, 1, 30, 99, 1999, 2000, 2050, 2099, 2100, 2000 + 1<<8, 2050 + 1<<32, math.MaxInt}
	months := []int{math.MinInt, -12, -1, 0, 1, 6, 12, 13, 6 + 1<<8, 6 + 1<<32, math.MaxInt}
	for _, year := range years {
		for _, month := range months {
			right := year >= 2000 && year <= 2099 && month >= 1 && month <= 12
			got, e := card.Expired("0001", year, month)
			if right && e != api.OK || !right && (got || e != api.ErrArg) {
				t.Errorf("C3: Expired(0001, %d, %d) = %t, %d", year, month, got, e)
			}
		}
	}
}
