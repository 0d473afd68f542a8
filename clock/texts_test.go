package clock_test

import (
	"fmt"
	"math/rand"
	"strings"
	"testing"

	"turnstile/api"
	"turnstile/clock"
)

func checkStamp(t *testing.T, moment int) {
	t.Helper()
	want, e := wantStamp(moment)
	if got, f := clock.Stamp(moment); got != want || f != e {
		t.Errorf("K3: Stamp(%d) = %q, %d, want %q, %d", moment, got, f, want, e)
	}
}

func checkJulian(t *testing.T, moment int) {
	t.Helper()
	want, e := wantJulian(moment)
	if got, f := clock.Julian(moment); got != want || f != e {
		t.Errorf("K4: Julian(%d) = %q, %d, want %q, %d", moment, got, f, want, e)
	}
}

func checkBusiness(t *testing.T, moment, hour int) {
	t.Helper()
	want, e := wantBusiness(moment, hour)
	if got, f := clock.Business(moment, hour); got != want || f != e {
		t.Errorf("K5: Business(%d, %d) = %q, %d, want %q, %d", moment, hour, got, f, want, e)
	}
}

func checkLast(t *testing.T, expiry string) {
	t.Helper()
	want, e := wantLast(expiry)
	if got, f := clock.Last(expiry); got != want || f != e {
		t.Errorf("K6: Last(%q) = %d, %d, want %d, %d", expiry, got, f, want, e)
	}
}

func at(t *testing.T, year, month, n, hour int) int {
	t.Helper()
	moment, e := clock.Of(api.Date{Year: year, Month: month, Day: n, Hour: hour})
	if e != api.OK {
		t.Fatalf("K1: Of %d-%d-%d %d: %d", year, month, n, hour, e)
	}
	return moment
}

func TestStamps(t *testing.T) {
	for moment, want := range map[int]string{0: "0101000000", 762525296: "0229123456", most: "1231235959"} {
		if got, e := clock.Stamp(moment); got != want || e != api.OK {
			t.Errorf("K3: Stamp(%d) = %q, %d, want %q", moment, got, e, want)
		}
	}
	for n := range day {
		checkStamp(t, n)
		checkStamp(t, n*36525-n/2)
	}
	for _, moment := range append(wrongMoments(), edges()...) {
		checkStamp(t, moment)
	}
}

func TestJulianDays(t *testing.T) {
	for moment, want := range map[int]string{0: "0001", at(t, 2024, 12, 31, 0): "4366", at(t, 2024, 12, 31, 23): "4366", at(t, 2023, 12, 31, 0): "3365", at(t, 2024, 2, 29, 7): "4060", at(t, 2026, 11, 15, 12): "6319", most: "9365"} {
		if got, e := clock.Julian(moment); got != want || e != api.OK {
			t.Errorf("K4: Julian(%d) = %q, %d, want %q", moment, got, e, want)
		}
	}
	for n := range (most + 1) / day {
		checkJulian(t, n*day)
		checkJulian(t, n*day+day-1)
	}
	for _, moment := range append(wrongMoments(), edges()...) {
		checkJulian(t, moment)
	}
}

func TestBusinessExamples(t *testing.T) {
	for _, k := range []struct {
		moment, hour int
		want         string
		e            api.Errno
	}{
		{at(t, 2024, 2, 29, 18), 18, "0301", api.OK},
		{at(t, 2024, 2, 29, 18), 19, "0229", api.OK},
		{at(t, 2024, 2, 29, 18), 0, "0229", api.OK},
		{at(t, 2024, 2, 29, 18), 1, "0301", api.OK},
		{at(t, 2024, 2, 29, 18) - 1, 18, "0229", api.OK},
		{at(t, 2024, 2, 29, 0), 1, "0229", api.OK},
		{at(t, 2024, 2, 28, 23), 23, "0229", api.OK},
		{at(t, 2023, 2, 28, 23), 23, "0301", api.OK},
		{at(t, 2023, 12, 31, 23), 22, "0101", api.OK},
		{at(t, 2099, 12, 31, 23), 23, "", api.ErrDate},
		{at(t, 2099, 12, 31, 23) - 1, 23, "1231", api.OK},
		{at(t, 2099, 12, 31, 23), 0, "1231", api.OK},
		{at(t, 2099, 12, 31, 23), 24, "", api.ErrArg},
		{at(t, 2099, 12, 31, 23), -1, "", api.ErrArg},
		{at(t, 2099, 12, 30, 23), 23, "1231", api.OK},
		{most + 1, 24, "", api.ErrDate},
		{-1, 24, "", api.ErrDate},
		{-1, 23, "", api.ErrDate},
	} {
		if got, e := clock.Business(k.moment, k.hour); got != k.want || e != k.e {
			t.Errorf("K5: Business(%d, %d) = %q, %d, want %q, %d", k.moment, k.hour, got, e, k.want, k.e)
		}
	}
}

// TestBusinessAtEachHour: each hour's first and last second, with each hour at which days may end, at days behind which another month or year begins.
func TestBusinessAtEachHour(t *testing.T) {
	for _, first := range []int{0, at(t, 2000, 2, 28, 0), at(t, 2023, 2, 28, 0), at(t, 2024, 2, 28, 0), at(t, 2024, 2, 29, 0), at(t, 2025, 4, 30, 0), at(t, 2030, 12, 31, 0), at(t, 2031, 7, 9, 0), at(t, 2099, 12, 30, 0), at(t, 2099, 12, 31, 0)} {
		for h := range 24 {
			for hour := -2; hour <= 26; hour++ {
				checkBusiness(t, first+h*3600, hour)
				checkBusiness(t, first+h*3600+3599, hour)
			}
		}
	}
}

// TestBusinessOnEachDay: with days that end within it.
func TestBusinessOnEachDay(t *testing.T) {
	for n := range (most + 1) / day {
		checkBusiness(t, n*day+12*3600, 12)
		checkBusiness(t, n*day+12*3600-1, 12)
	}
}

// TestBusinessTellsTheFirstError: right and wrong ones of both, each with each.
func TestBusinessTellsTheFirstError(t *testing.T) {
	for _, moment := range append([]int{0, 1, day, most - day, most - 1, most}, wrongMoments()...) {
		for _, hour := range append([]int{0, 1, 12, 22, 23}, wrongHours()...) {
			checkBusiness(t, moment, hour)
		}
	}
}

func TestManyBusinessDays(t *testing.T) {
	r := rand.New(rand.NewSource(87))
	for range 100000 {
		checkBusiness(t, randomMoment(r), r.Intn(26)-1)
	}
}

func TestLastExamples(t *testing.T) {
	for _, k := range []struct {
		expiry string
		want   int
		e      api.Errno
	}{
		{"2402", 762566399, api.OK}, {"0001", 31*day - 1, api.OK}, {"9912", most, api.OK},
		{"2400", 0, api.ErrExpiry}, {"2413", 0, api.ErrExpiry}, {"", 0, api.ErrExpiry}, {"202402", 0, api.ErrExpiry},
	} {
		if got, e := clock.Last(k.expiry); got != k.want || e != k.e {
			t.Errorf("K6: Last(%q) = %d, %d, want %d, %d", k.expiry, got, e, k.want, k.e)
		}
	}
}

// TestLastOfAllDigits: of all texts of up to five digits just those that tell a month.
func TestLastOfAllDigits(t *testing.T) {
	for width := 1; width <= 5; width++ {
		for n := range 10000 {
			checkLast(t, fmt.Sprintf("%0*d", width, n))
		}
	}
}

// TestLastOfOtherTexts: each byte at each place, texts that are cut off or go on, and such as another reader might take for numbers.
func TestLastOfOtherTexts(t *testing.T) {
	for _, expiry := range []string{"2402", "0001", "9912", "2313", "0000"} {
		for place := range len(expiry) {
			checkLast(t, expiry[:place])
			checkLast(t, expiry[place+1:])
			for c := range 256 {
				checkLast(t, withByte(expiry, place, byte(c)))
			}
		}
		for c := range 256 {
			checkLast(t, expiry+string([]byte{byte(c)}))
			checkLast(t, string([]byte{byte(c)})+expiry)
			checkLast(t, expiry[:2]+string([]byte{byte(c)})+expiry[2:])
		}
	}
	for _, expiry := range []string{"+401", "24+1", "24-1", "24 1", " 401", "-401", "2 01", "0x01", "1e01", "24/1", "24:1", "４０", "\xFF\xFF\xFF\xFF", "\x00\x00\x00\x01", strings.Repeat("01", 50000)} {
		checkLast(t, expiry)
	}
}
