package clock_test

import (
	"math"
	"math/rand"
	"testing"
	"time"

	"turnstile/api"
	"turnstile/clock"
)

func checkLeap(t *testing.T, year int) {
	t.Helper()
	if got, want := clock.Leap(year), wantLeap(year); got != want {
		t.Errorf("K1: Leap(%d) = %v", year, got)
	}
}

func checkOf(t *testing.T, d api.Date) {
	t.Helper()
	want, e := wantOf(d)
	if got, f := clock.Of(d); got != want || f != e {
		t.Errorf("K1: Of(%v) = %d, %d, want %d, %d", d, got, f, want, e)
	}
}

func checkDate(t *testing.T, moment int) {
	t.Helper()
	want, e := wantDate(moment)
	if got, f := clock.Date(moment); got != want || f != e {
		t.Errorf("K1: Date(%d) = %v, %d, want %v, %d", moment, got, f, want, e)
	}
}

func TestLeapYears(t *testing.T) {
	for year, want := range map[int]bool{2000: true, 2023: false, 2024: true, 2096: true, 2099: false, 2100: false, 1900: false, 1600: true, 0: true, 1: false, -1: false, -4: true, -100: false, -400: true, -2000: true, 4: true, 100: false} {
		if clock.Leap(year) != want {
			t.Errorf("K1: Leap(%d) = %v", year, !want)
		}
	}
	for year := -10000; year <= 10000; year++ {
		checkLeap(t, year)
	}
	for n := range 1000 {
		checkLeap(t, math.MinInt+n)
		checkLeap(t, math.MaxInt-n)
		checkLeap(t, 1<<40+n)
	}
}

func TestDatesExamples(t *testing.T) {
	for _, k := range []struct {
		d      api.Date
		moment int
	}{
		{api.Date{Year: 2000, Month: 1, Day: 1}, 0},
		{api.Date{Year: 2024, Month: 2, Day: 29, Hour: 12, Minute: 34, Second: 56}, 762525296},
		{api.Date{Year: 2000, Month: 2, Day: 29, Hour: 12, Minute: 34, Second: 56}, 5142896},
		{api.Date{Year: 2000, Month: 12, Day: 31, Hour: 23, Minute: 59, Second: 59}, 31622399},
		{api.Date{Year: 2001, Month: 1, Day: 1}, 31622400},
		{api.Date{Year: 2024, Month: 2, Day: 29, Hour: 23, Minute: 59, Second: 59}, 762566399},
		{api.Date{Year: 2099, Month: 12, Day: 31, Hour: 23, Minute: 59, Second: 59}, 3155759999},
	} {
		if got, e := clock.Of(k.d); got != k.moment || e != api.OK {
			t.Errorf("K1: Of(%v) = %d, %d, want %d", k.d, got, e, k.moment)
		}
		if got, e := clock.Date(k.moment); got != k.d || e != api.OK {
			t.Errorf("K1: Date(%d) = %v, %d, want %v", k.moment, got, e, k.d)
		}
	}
	for hour := range 24 {
		d := api.Date{Year: 2023, Month: 2, Day: 29, Hour: hour, Minute: 34, Second: 56}
		if got, e := clock.Of(d); got != 0 || e != api.ErrDate {
			t.Errorf("K1: Of(%v) = %d, %d", d, got, e)
		}
	}
	for _, moment := range []int{3155760000, -1} {
		if got, e := clock.Date(moment); got != (api.Date{}) || e != api.ErrDate {
			t.Errorf("K1: Date(%d) = %v, %d", moment, got, e)
		}
	}
}

// TestEachDay: from the first to the last, at both its ends and some time between.
func TestEachDay(t *testing.T) {
	r := rand.New(rand.NewSource(85))
	for n := range (most + 1) / day {
		for _, second := range []int{0, day - 1, r.Intn(day)} {
			moment := n*day + second
			checkDate(t, moment)
			d, _ := wantDate(moment)
			checkOf(t, d)
		}
	}
}

// TestEachSecond: of the first day, of the last, and of a leap one.
func TestEachSecond(t *testing.T) {
	for _, n := range []int{0, most + 1 - day, 762525296 / day * day} {
		for second := range day {
			checkDate(t, n+second)
			d, _ := wantDate(n + second)
			checkOf(t, d)
		}
	}
}

// TestEachDayThatMayBe: of each month that may be, of all years and some beside them.
func TestEachDayThatMayBe(t *testing.T) {
	for year := 1995; year <= 2105; year++ {
		for month := -1; month <= 14; month++ {
			for n := -1; n <= 33; n++ {
				checkOf(t, api.Date{Year: year, Month: month, Day: n})
			}
		}
	}
}

// TestEachTimeThatMayBe: and such as lie just beyond.
func TestEachTimeThatMayBe(t *testing.T) {
	for hour := -2; hour <= 26; hour++ {
		for minute := -2; minute <= 62; minute++ {
			for _, second := range []int{-60, -1, 0, 1, 29, 58, 59, 60, 61, 100} {
				checkOf(t, api.Date{Year: 2031, Month: 7, Day: 9, Hour: hour, Minute: minute, Second: second})
				checkOf(t, api.Date{Year: 2031, Month: 7, Day: 9, Hour: hour, Minute: second, Second: minute})
			}
		}
	}
}

// TestWrongPartsOfDates: each part far off, in a date that else is right, and two at a time.
func TestWrongPartsOfDates(t *testing.T) {
	off := []int{math.MinInt, math.MinInt + 1, -1 << 40, -100, -1, 0, 13, 24, 32, 60, 100, 1999, 2100, 20000, 1 << 32, 1<<32 + 1, 1 << 62, math.MaxInt - 1, math.MaxInt}
	parts := func(d *api.Date) []*int {
		return []*int{&d.Year, &d.Month, &d.Day, &d.Hour, &d.Minute, &d.Second}
	}
	for i := range 6 {
		for j := range 6 {
			for _, a := range off {
				for _, b := range off {
					d := api.Date{Year: 2024, Month: 2, Day: 28, Hour: 5, Minute: 6, Second: 7}
					*parts(&d)[i], *parts(&d)[j] = a, b
					checkOf(t, d)
				}
			}
		}
	}
	checkOf(t, api.Date{})
}

func TestWhatIsNoMomentHasNoDate(t *testing.T) {
	for _, moment := range append(wrongMoments(), edges()...) {
		checkDate(t, moment)
	}
}

func TestManyMoments(t *testing.T) {
	r := rand.New(rand.NewSource(86))
	for range 200000 {
		moment := randomMoment(r)
		checkDate(t, moment)
		d, _ := wantDate(moment)
		checkOf(t, d)
	}
}

// TestEachDayHasItsWeekday: all of them, and at both their ends.
func TestEachDayHasItsWeekday(t *testing.T) {
	for n := range (most + 1) / day {
		for _, moment := range []int{n * day, n*day + day - 1} {
			want, e := wantWeekday(moment)
			if got, f := clock.Weekday(moment); got != want || f != e {
				t.Errorf("K2: Weekday(%d) = %d, %d, want %d, %d", moment, got, f, want, e)
			}
		}
	}
}

func TestWeekdayExamples(t *testing.T) {
	for moment, want := range map[int]int{0: 6, 86399: 6, 86400: 7, 172800: 1, 762525296: 4, most: int(time.Thursday)} {
		if got, e := clock.Weekday(moment); got != want || e != api.OK {
			t.Errorf("K2: Weekday(%d) = %d, %d, want %d", moment, got, e, want)
		}
	}
	for _, moment := range wrongMoments() {
		if got, e := clock.Weekday(moment); got != 0 || e != api.ErrDate {
			t.Errorf("K2: Weekday(%d) = %d, %d", moment, got, e)
		}
	}
}
