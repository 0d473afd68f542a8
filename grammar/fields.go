package grammar

import (
	"slices"

	"turnstile/api"
	"turnstile/digits"
)

// ruleOf is the rule of a type as it stands in the dialect: its lists are the dialect's own.
func ruleOf(d api.Dialect, mti string) (api.Rule, bool) {
	for _, r := range d.Rules {
		if r.MTI == mti {
			return r, true
		}
	}
	return api.Rule{}, false
}

func names(r api.Rule, n int) bool { return slices.Contains(r.Must, n) || slices.Contains(r.May, n) }

// firstNotRising is the place of the first field that is not above the one ahead; -1: all rise.
func firstNotRising(l []api.Field) int {
	for i := 1; i < len(l); i++ {
		if l[i].Number <= l[i-1].Number {
			return i
		}
	}
	return -1
}

// wrongFields is what is wrong first, by rising numbers, with fields that rise, and with those that are missing.
func wrongFields(d api.Dialect, r api.Rule, l []api.Field) (api.Errno, int) {
	must := copyNumbers(r.Must)
	slices.Sort(must) // of a dialect that is not right they need not rise
	for _, f := range l {
		if len(must) > 0 && must[0] < f.Number {
			return api.ErrMust, must[0]
		}
		for len(must) > 0 && must[0] == f.Number {
			must = must[1:]
		}
		if e := wrongField(d, r, f); e != api.OK {
			return e, f.Number
		}
	}
	if len(must) > 0 {
		return api.ErrMust, must[0]
	}
	return api.OK, 0
}

// wrongField is why a message under a rule may not have a field.
func wrongField(d api.Dialect, r api.Rule, f api.Field) api.Errno {
	s, ok := Spec(d, f.Number)
	switch {
	case !ok:
		return api.ErrField
	case !names(r, f.Number):
		return api.ErrMay
	case !Value(s, f):
		return api.ErrValue
	}
	return api.OK
}

// mapSize is how many bytes the bitmap of some fields has at most.
func mapSize(enc int, numbers []int) int {
	size := 16
	if enc == api.BINARY {
		size = 8
	}
	if slices.ContainsFunc(numbers, func(n int) bool { return n > 64 }) {
		return 2 * size
	}
	return size
}

// mostBytes is how many bytes a field has at most, with its length: Prefix refuses one that there is not, and writes nothing.
func mostBytes(s api.FieldSpec) int {
	length, _ := digits.Prefix(s.LenEnc, s.Digits, 0)
	return len(length) + digits.Width(s.Enc, s.Size)
}
