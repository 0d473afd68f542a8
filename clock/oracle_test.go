package clock_test

import (
	"fmt"
	"math"
	"math/rand"
	"regexp"
	"strings"
	"time"

	"turnstile/api"
)

// A plain second reading of the chapter, by patterns and the library's own calendar, is held against the package.

const (
	most = 3155759999 // 2099-12-31 23:59:59
	day  = 86400
)

var (
	aDate  = regexp.MustCompile(`\A20[0-9]{2}(-[0-9]{2}){2} [0-9]{2}(:[0-9]{2}){2}\z`)
	aStamp = regexp.MustCompile(`\A[0-9]{10}\z`)
	aMonth = regexp.MustCompile(`\A[0-9]{4}\z`)
)

func beginning() int { return int(time.Date(2000, 1, 1, 0, 0, 0, 0, time.UTC).Unix()) }

func momentOf(t time.Time) int { return int(t.Unix()) - beginning() }

func timeOf(moment int) (time.Time, bool) {
	return time.Unix(int64(beginning()+moment), 0).UTC(), 0 <= moment && moment <= most
}

// wantLeap: the calendar is the same again after 400 years.
func wantLeap(year int) bool {
	same := (year%400 + 400) % 400
	return time.Date(same, 2, 29, 0, 0, 0, 0, time.UTC).Month() == time.February
}

func wantOf(d api.Date) (int, api.Errno) {
	text := fmt.Sprintf("%04d-%02d-%02d %02d:%02d:%02d", d.Year, d.Month, d.Day, d.Hour, d.Minute, d.Second)
	t, err := time.Parse(time.DateTime, text)
	if err != nil || !aDate.MatchString(text) {
		return 0, api.ErrDate
	}
	return momentOf(t), api.OK
}

func wantDate(moment int) (api.Date, api.Errno) {
	t, ok := timeOf(moment)
	if !ok {
		return api.Date{}, api.ErrDate
	}
	return api.Date{Year: t.Year(), Month: int(t.Month()), Day: t.Day(), Hour: t.Hour(), Minute: t.Minute(), Second: t.Second()}, api.OK
}

func wantWeekday(moment int) (int, api.Errno) {
	t, ok := timeOf(moment)
	if !ok {
		return 0, api.ErrDate
	}
	if t.Weekday() == time.Sunday {
		return 7, api.OK
	}
	return int(t.Weekday()), api.OK
}

func wantStamp(moment int) (string, api.Errno) { return wantText(moment, "0102150405") }

// wantText is a moment as the library writes it.
func wantText(moment int, layout string) (string, api.Errno) {
	t, ok := timeOf(moment)
	if !ok {
		return "", api.ErrDate
	}
	return t.Format(layout), api.OK
}

// moments are all whose date has a stamp, rising.
func moments(stamp string) []int {
	var l []int
	for year := 2000; aStamp.MatchString(stamp) && year <= 2099; year++ {
		if t, err := time.Parse("20060102150405", fmt.Sprint(year)+stamp); err == nil {
			l = append(l, momentOf(t))
		}
	}
	return l
}

func wantNear(stamp string, moment int) (int, api.Errno) {
	if _, ok := timeOf(moment); !ok {
		return 0, api.ErrDate
	}
	return nearestOf(moments(stamp), moment)
}

func nearestOf(all []int, moment int) (int, api.Errno) {
	if len(all) == 0 {
		return 0, api.ErrStamp
	}
	near := all[0]
	for _, n := range all {
		if math.Abs(float64(n-moment)) < math.Abs(float64(near-moment)) {
			near = n
		}
	}
	return near, api.OK
}

func wantJulian(moment int) (string, api.Errno) {
	s, e := wantText(moment, "2006002")
	return strings.TrimPrefix(s, s[:len(s)/7*3]), e
}

func wantBusiness(moment, hour int) (string, api.Errno) {
	t, ok := timeOf(moment)
	if !ok {
		return "", api.ErrDate
	}
	if hour < 0 || hour > 23 {
		return "", api.ErrArg
	}
	if hour != 0 && t.Hour() >= hour {
		t = t.AddDate(0, 0, 1)
	}
	if t.Year() > 2099 {
		return "", api.ErrDate
	}
	return t.Format("0102"), api.OK
}

func wantLast(expiry string) (int, api.Errno) {
	t, err := time.Parse("200601", "20"+expiry)
	if err != nil || !aMonth.MatchString(expiry) {
		return 0, api.ErrExpiry
	}
	return momentOf(t.AddDate(0, 1, 0)) - 1, api.OK
}

// edges are moments at which a minute, an hour, a day, a month or a year begins, with those ahead of and behind them.
func edges() []int {
	l := []int{0, 1, 59, 60, 61, 3599, 3600, 3601, most - 3600, most - 60, most - 1, most}
	for year := 2000; year <= 2099; year++ {
		for month := time.January; month <= time.December; month++ {
			n := momentOf(time.Date(year, month, 1, 0, 0, 0, 0, time.UTC))
			l = append(l, max(n-day, 0), max(n-1, 0), n, n+1, n+day-1, n+day)
		}
	}
	return l
}

// wrongMoments are numbers that are no moments.
func wrongMoments() []int {
	return []int{-1, -2, -day, -day - 1, -most, most + 1, most + 2, most + day, most + 1 + 365*day, 1 << 62, math.MinInt, math.MinInt + 1, math.MaxInt, math.MaxInt - 1}
}

// wrongHours are numbers that are no hours.
func wrongHours() []int {
	return []int{-1, -23, -24, 24, 25, 99, 1 << 62, math.MinInt, math.MinInt + 1, math.MaxInt}
}

// randomMoment is any; those near the beginning, the end and a leap day come often.
func randomMoment(r *rand.Rand) int {
	switch r.Intn(5) {
	case 0:
		return r.Intn(3 * 365 * day)
	case 1:
		return most - r.Intn(5*365*day)
	case 2:
		leap := time.Date(2000+4*r.Intn(25), 2, 29, 0, 0, 0, 0, time.UTC)
		return momentOf(leap) + r.Intn(3*day) - day
	}
	return r.Intn(most + 1)
}

// withByte is a text with another byte at a place.
func withByte(s string, at int, c byte) string { return s[:at] + string([]byte{c}) + s[at+1:] }
