package clock

import "turnstile/api"

const (
	firstYear    = 2000
	lastYear     = 2099
	firstWeekday = 6 // 2000-01-01 was a Saturday
	months       = 12
)

// ahead is how many days stand ahead of each month in a year that is not leap; the last is of the month behind December, so that each month has an end.
var ahead = [months + 1]int{0, 31, 59, 90, 120, 151, 181, 212, 243, 273, 304, 334, 365}

// aheadOfMonth is how many days of its year stand ahead of a month, 1 to 13.
func aheadOfMonth(year, month int) int {
	days := ahead[month-1]
	if month > 2 && Leap(year) {
		days++
	}
	return days
}

// aheadOfYear is how many days the years from 2000 on have till then: of 2000 to 2099 each fourth is leap, and 2000 is one of them.
func aheadOfYear(year int) int {
	years := year - firstYear
	return years*365 + (years+3)/4
}

// dayOf is the day that has so many days from 2000-01-01 on ahead of it.
func dayOf(days int) api.Date {
	d := api.Date{Year: firstYear + days/366, Month: 1} // no year has more days: this year is not behind the right one
	for aheadOfYear(d.Year+1) <= days {
		d.Year++
	}
	days -= aheadOfYear(d.Year)
	for aheadOfMonth(d.Year, d.Month+1) <= days {
		d.Month++
	}
	d.Day = days - aheadOfMonth(d.Year, d.Month) + 1
	return d
}

func isDate(d api.Date) bool {
	return within(d.Year, firstYear, lastYear) && isMonth(d.Month) && within(d.Day, 1, daysOf(d.Year, d.Month)) &&
		within(d.Hour, 0, 23) && within(d.Minute, 0, 59) && within(d.Second, 0, 59)
}

func daysOf(year, month int) int { return aheadOfMonth(year, month+1) - aheadOfMonth(year, month) }

func isMonth(month int) bool { return within(month, 1, months) }

func isMoment(moment int) bool { return within(moment, 0, api.MaxMoment) }

func within(n, least, most int) bool { return least <= n && n <= most }
