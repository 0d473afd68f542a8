package clock_test

import (
	"math/rand"
	"testing"

	"turnstile/api"
	"turnstile/clock"
)

// What follows (K7), asked of the package alone.

func TestMomentsComeBack(t *testing.T) {
	r := rand.New(rand.NewSource(89))
	for range 200000 {
		moment := randomMoment(r)
		d, e := clock.Date(moment)
		if e != api.OK {
			t.Fatalf("K1: Date(%d): %d", moment, e)
		}
		if back, e := clock.Of(d); back != moment || e != api.OK {
			t.Errorf("K7: Of of Date(%d) = %d, %d", moment, back, e)
		}
	}
}

// TestDatesComeBack: whatever Of takes, of dates that are nearly right.
func TestDatesComeBack(t *testing.T) {
	r := rand.New(rand.NewSource(90))
	taken := 0
	for range 300000 {
		d := api.Date{Year: 1999 + r.Intn(102), Month: r.Intn(14), Day: r.Intn(33), Hour: r.Intn(25), Minute: r.Intn(61), Second: r.Intn(61)}
		moment, e := clock.Of(d)
		if e != api.OK {
			continue
		}
		taken++
		if back, e := clock.Date(moment); back != d || e != api.OK {
			t.Errorf("K7: Date of Of(%v) = %v, %d", d, back, e)
		}
	}
	if taken < 100000 {
		t.Errorf("the test took %d dates only", taken)
	}
}

// later tells whether b is a date behind a.
func later(a, b api.Date) bool {
	first := []int{a.Year, a.Month, a.Day, a.Hour, a.Minute, a.Second}
	second := []int{b.Year, b.Month, b.Day, b.Hour, b.Minute, b.Second}
	for i := range first {
		if first[i] != second[i] {
			return first[i] < second[i]
		}
	}
	return false
}

func TestDatesRise(t *testing.T) {
	r := rand.New(rand.NewSource(91))
	check := func(a, b int) {
		t.Helper()
		first, _ := clock.Date(a)
		second, _ := clock.Date(b)
		if later(first, second) != (a < b) {
			t.Errorf("K7: Date(%d) = %v, Date(%d) = %v", a, first, b, second)
		}
	}
	for range 100000 {
		a := randomMoment(r)
		check(a, randomMoment(r))
		check(a, min(a+1, most))
		check(a, min(a+r.Intn(3*day), most))
	}
	for n := 1; n < (most+1)/day; n++ {
		check(n*day-1, n*day)
	}
}

func TestWeekdaysGoRound(t *testing.T) {
	r := rand.New(rand.NewSource(92))
	for range 100000 {
		moment := randomMoment(r)
		if moment+day > most {
			continue
		}
		today, e := clock.Weekday(moment)
		if e != api.OK || today < 1 || today > 7 {
			t.Fatalf("K2: Weekday(%d) = %d, %d", moment, today, e)
		}
		if next, e := clock.Weekday(moment + day); next != today%7+1 || e != api.OK {
			t.Errorf("K7: Weekday(%d) = %d, a day later %d, %d", moment, today, next, e)
		}
	}
}

func TestNearIsItself(t *testing.T) {
	r := rand.New(rand.NewSource(93))
	all := edges()
	for range 100000 {
		all = append(all, randomMoment(r))
	}
	for _, moment := range all {
		stamp, e := clock.Stamp(moment)
		if e != api.OK {
			t.Fatalf("K3: Stamp(%d): %d", moment, e)
		}
		if got, e := clock.Near(stamp, moment); got != moment || e != api.OK {
			t.Errorf("K7: Near of the stamp of %d = %d, %d", moment, got, e)
		}
	}
}
