package card

import "turnstile/api"

const (
	firstYear = 2000
	lastYear  = 2099
)

// Expired tells whether a card's last month is over in a month.
func Expired(expiry string, year, month int) (bool, api.Errno) {
	cardYear, cardMonth, ok := readMonth(expiry)
	if !ok {
		return false, api.ErrExpiry
	}
	if year < firstYear || year > lastYear || !isMonth(month) {
		return false, api.ErrArg
	}
	if year != cardYear {
		return year > cardYear, api.OK
	}
	return month > cardMonth, api.OK
}

// readMonth is the year and the month of four digits; false: they are none.
func readMonth(s string) (int, int, bool) {
	if len(s) != 4 || !allDigits(s) {
		return 0, 0, false
	}
	year, month := firstYear+pair(s[:2]), pair(s[2:])
	if !isMonth(month) {
		return 0, 0, false
	}
	return year, month, true
}

func isMonth(month int) bool { return 1 <= month && month <= 12 }

// pair is what two digits say.
func pair(s string) int { return 10*int(s[0]-'0') + int(s[1]-'0') }
