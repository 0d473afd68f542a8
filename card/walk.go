package card

import "strings"

const anyDigit = "0123456789"

// ends are the places where parts of a track end.
type ends struct {
	pan, expiry, service int
}

// walk goes through a track, a state a part; false: it is none, and the place is where the walk could not go on.
func walk(s string) (ends, int, bool) {
	var e ends
	w := walker{text: s}
number:
	if w.at < mostPAN && w.take(anyDigit) {
		goto number
	}
	e.pan = w.at
	if w.at == 0 || !w.take(separator) {
		goto wrong
	}
	if w.take(separator) {
		goto service
	}
	if !w.take(anyDigit) || !w.take(anyDigit) {
		goto wrong
	}
	if w.take("0") {
		goto firstNine
	}
	if w.take("1") {
		goto lastThree
	}
	goto wrong
firstNine: // the months 01 to 09
	if w.take("123456789") {
		goto service
	}
	goto wrong
lastThree: // the months 10 to 12
	if w.take("012") {
		goto service
	}
	goto wrong
service:
	e.expiry = w.at
	if w.take(separator) {
		goto rest
	}
	if !w.take(anyDigit) || !w.take(anyDigit) || !w.take(anyDigit) {
		goto wrong
	}
rest:
	e.service = w.at
more:
	if w.take(anyDigit) {
		goto more
	}
	if w.at == len(s) {
		return e, w.at, true
	}
wrong:
	return ends{}, w.at, false
}

// walker is a text, and the place of the byte that it comes to next.
type walker struct {
	text string
	at   int
}

// take steps over the next byte, if there is one and it is one of these.
func (w *walker) take(these string) bool {
	if w.at == len(w.text) || strings.IndexByte(these, w.text[w.at]) < 0 {
		return false
	}
	w.at++
	return true
}
