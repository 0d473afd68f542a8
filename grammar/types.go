package grammar

import (
	"strconv"
	"strings"

	"turnstile/api"
)

const typeDigits = 4 // of a message type

// isType tells whether there is such a message type.
func isType(mti string) bool {
	if len(mti) != typeDigits || mti[0] != '0' && mti[0] != '1' {
		return false
	}
	switch mti[1:] {
	case "100", "101", "110", "120", "121", "130",
		"200", "201", "210", "220", "221", "230",
		"420", "421", "430",
		"500", "501", "510",
		"800", "801", "810":
		return true
	}
	return false
}

// typeIn is a type in the dialect's version; what is none stays as it is, and so do all, if the dialect's version is none.
func typeIn(d api.Dialect, mti string) string {
	if !isType(mti) || !isVersion(d.Version) {
		return strings.Clone(mti)
	}
	return strconv.Itoa(d.Version) + mti[1:]
}
