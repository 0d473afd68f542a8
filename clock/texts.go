package clock

import "turnstile/api"

const (
	stampSize = 10 // digits
	monthSize = 4
	leapYear  = 2000 // a stamp has no year: it may be of one that has all days
	leapGap   = 4    // of the years 2000 to 2099 this many in a row have a leap one among them
)

// readStamp is the date of a stamp in a year that has all days; false: it is none.
func readStamp(s string) (api.Date, bool) {
	if len(s) != stampSize || !allDigits(s) {
		return api.Date{}, false
	}
	d := api.Date{Year: leapYear, Month: pair(s), Day: pair(s[2:]), Hour: pair(s[4:]), Minute: pair(s[6:]), Second: pair(s[8:])}
	return d, isDate(d)
}

// nearest is the moment of d, in whichever year, that lies nearest to a moment of the year that is told; of two the earlier one, since years rise.
func nearest(d api.Date, year, moment int) int {
	best := -1
	for d.Year = year - leapGap; d.Year <= year+leapGap; d.Year++ {
		at, e := Of(d) // it refuses what lies outside of 2000 to 2099, and February 29 where there is none
		if e == api.OK && (best < 0 || away(at, moment) < away(best, moment)) {
			best = at
		}
	}
	return best
}

func away(a, b int) int { return max(a-b, b-a) }

// readMonth is the year and the month that four digits tell; false: they tell none.
func readMonth(s string) (int, int, bool) {
	if len(s) != monthSize || !allDigits(s) {
		return 0, 0, false
	}
	year, month := firstYear+pair(s), pair(s[2:])
	return year, month, isMonth(month)
}

// pair is the number that the first two digits are.
func pair(digits string) int { return 10*int(digits[0]-'0') + int(digits[1]-'0') }

// pairs is numbers below 100, each in two digits.
func pairs(numbers ...int) string {
	var b []byte
	for _, n := range numbers {
		b = append(b, byte('0'+n/10), byte('0'+n%10))
	}
	return string(b)
}

func allDigits(s string) bool {
	for i := range len(s) {
		if s[i] < '0' || s[i] > '9' {
			return false
		}
	}
	return true
}
