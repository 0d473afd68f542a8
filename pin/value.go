package pin

import "turnstile/api"

const (
	valueSize = 4  // digits of a value, and of the PIN that it hangs on
	valuePAN  = 11 // digits of the PAN
)

// Value is four digits by which a PIN is known.
func Value(key, pan, index, pin string) (string, api.Errno) {
	k, e := ready(key)
	switch {
	case e != api.OK:
		return "", e
	case !isPAN(pan):
		return "", api.ErrPAN
	case !isPIN(pin):
		return "", api.ErrPIN
	case !isIndex(index):
		return "", api.ErrArg
	}
	hidden, e := k.Encrypt(pack(leftOfLast(pan, valuePAN), index, pin[:valueSize]))
	if e != api.OK {
		return "", e
	}
	return asDigits(spread(hidden))[:valueSize], api.OK
}

func isIndex(s string) bool { return len(s) == 1 && '1' <= s[0] && s[0] <= '6' }

// asDigits is sixteenths in another order, and as digits: those that are digits first, the others less ten behind them.
func asDigits(s string) string {
	var digits, others []byte
	for i := range len(s) {
		if n := worth(s[i]); n < 10 {
			digits = append(digits, s[i])
		} else {
			others = append(others, sixteenths[n-10])
		}
	}
	return string(append(digits, others...))
}
