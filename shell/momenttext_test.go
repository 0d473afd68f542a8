package shell_test

import "time"

// momentText is a moment as a text, by the library's calendar.
func momentText(moment int) string {
	return time.Date(2000, 1, 1, 0, 0, moment, 0, time.UTC).Format("2006-01-02 15:04:05")
}
