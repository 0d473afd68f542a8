package money

import "turnstile/api"

const (
	rateSize   = 8 // characters
	mostPlaces = 7 // of a rate
)

// factor is what a rate says: number divided by 10 to the places.
type factor struct {
	places int
	number uint64
}

// Convert is an amount in another currency.
func Convert(units int, from, to, rate string) (int, api.Errno) {
	old, e := Places(from)
	if e != api.OK {
		return 0, e
	}
	places, e := Places(to)
	if e != api.OK {
		return 0, e
	}
	if !isAmount(units) {
		return 0, api.ErrAmount
	}
	f, ok := readRate(rate)
	if !ok {
		return 0, api.ErrRate
	}
	got := moved(uint64(units)*f.number, places-old-f.places) // the product is below 10 to the 19: 64 bits have room for it
	if got > api.MaxUnits {
		return 0, api.ErrOver
	}
	return int(got), api.OK
}

// readRate is what a rate says; false: it is none.
func readRate(s string) (factor, bool) {
	if len(s) != rateSize || !allDigits(s) {
		return factor{}, false
	}
	f := factor{places: int(s[0] - '0'), number: number(s[1:])}
	return f, f.places <= mostPlaces && f.number > 0
}

// moved is n times 10 to the places, which may be below 0, as a whole number. What is too great to be an amount already stays as it is: it would only become greater.
func moved(n uint64, places int) uint64 {
	switch {
	case places < 0:
		return nearest(n, tenTo(-places))
	case n > api.MaxUnits:
		return n
	}
	return n * tenTo(places)
}

// nearest is the whole number that is nearest to n divided by d; of two the even one.
func nearest(n, d uint64) uint64 {
	whole, twice := n/d, n%d*2
	if twice > d || twice == d && whole%2 == 1 {
		whole++
	}
	return whole
}

func tenTo(places int) uint64 {
	n := uint64(1)
	for range places {
		n *= 10
	}
	return n
}

func number(digits string) uint64 {
	n := uint64(0)
	for i := range len(digits) {
		n = n*10 + uint64(digits[i]-'0')
	}
	return n
}

func allDigits(s string) bool {
	for i := range len(s) {
		if s[i] < '0' || s[i] > '9' {
			return false
		}
	}
	return true
}
