package shell

import (
	"turnstile/api"
	"turnstile/clock"
	"turnstile/digits"
)

// momentForm is how a moment is written.
const momentForm = "2026-11-15 13:05:00"

// momentOf reads what showMoment writes.
func momentOf(s string) (int, bool) {
	if len(s) != len(momentForm) {
		return 0, false
	}
	n, e := clock.Of(api.Date{
		Year:   piece(s, 0, 4),
		Month:  piece(s, 5, 7),
		Day:    piece(s, 8, 10),
		Hour:   piece(s, 11, 13),
		Minute: piece(s, 14, 16),
		Second: piece(s, 17, 19),
	})
	return n, e == api.OK && showMoment(n) == s // what is no digit was read as 0, and what stands between as nothing
}

func piece(s string, from, to int) int {
	n, _ := digits.Number(s[from:to])
	return n
}

func showMoment(moment int) string {
	d, _ := clock.Date(moment)
	return padded(d.Year, 4) + "-" + padded(d.Month, 2) + "-" + padded(d.Day, 2) + " " + padded(d.Hour, 2) + ":" + padded(d.Minute, 2) + ":" + padded(d.Second, 2)
}

func padded(n, width int) string {
	s, _ := digits.Write(n, width)
	return s
}
