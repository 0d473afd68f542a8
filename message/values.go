package message

import (
	"strings"

	"turnstile/api"
)

// Fields of which more is said than that they stay.
const (
	stampField    = 7
	numberField   = 11
	acquirerField = 32
	codeField     = 39
	terminalField = 41
	originalField = 90
)

// How many digits they have in field 90, which has as many for each of two institutions.
const (
	numberDigits      = 6
	stampDigits       = 10
	institutionDigits = 11
)

// filled is a field's digits with noughts ahead, up to as many as wanted; noughts alone, if the message has it not.
func filled(m api.Message, number, digits int) (string, bool) {
	value, has := Get(m, number)
	if has && !isDigits(value, 1, digits) {
		return "", false
	}
	return strings.Repeat("0", digits-len(value)) + value, true
}

// isDigits tells whether a text is digits, at least and at most so many.
func isDigits(s string, least, most int) bool {
	if len(s) < least || len(s) > most {
		return false
	}
	for i := range len(s) {
		if !isDigit(s[i]) {
			return false
		}
	}
	return true
}

// isCode tells whether an answer may have it in field 39.
func isCode(s string) bool { return len(s) == 2 && isCodeByte(s[0]) && isCodeByte(s[1]) }

func isCodeByte(c byte) bool { return isDigit(c) || 'A' <= c && c <= 'Z' }

func isDigit(c byte) bool { return '0' <= c && c <= '9' }
