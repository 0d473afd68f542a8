package grammar

import (
	"turnstile/api"
	"turnstile/tlv"
)

// leastCount is how few characters a field of a class may have.
func leastCount(class int) int {
	if class == api.ClassX {
		return 2
	}
	return 1
}

// rightCount tells whether a field may have so many characters.
func rightCount(s api.FieldSpec, n int) bool {
	if s.Digits == 0 && n != s.Size {
		return false
	}
	return leastCount(s.Class) <= n && n <= s.Size
}

// rightText tells whether all characters are such as a class has.
func rightText(class int, text string) bool {
	for i := range len(text) {
		if !mayHold(class, text[i], i) {
			return false
		}
	}
	return true
}

// mayHold tells whether a class may have a character at a place; not, if it has no characters.
func mayHold(class int, c byte, at int) bool {
	switch class {
	case api.ClassN:
		return isDigit(c)
	case api.ClassA:
		return isLetter(c) || c == ' '
	case api.ClassAN:
		return isLetter(c) || isDigit(c) || c == ' '
	case api.ClassANS:
		return ' ' <= c && c <= '~'
	case api.ClassB:
		return true
	case api.ClassZ:
		return isDigit(c) || c == '='
	case api.ClassX:
		if at == 0 {
			return c == 'C' || c == 'D'
		}
		return isDigit(c)
	}
	return false
}

func isDigit(c byte) bool { return '0' <= c && c <= '9' }

func isSmall(c byte) bool { return 'a' <= c && c <= 'z' }

func isLetter(c byte) bool { return isSmall(c) || 'A' <= c && c <= 'Z' }

// rightKids tells whether a field that has Kids may have these: none are no bytes, and so too few.
func rightKids(s api.FieldSpec, f api.Field) bool {
	if f.Value != "" {
		return false
	}
	build := tlv.Build
	if s.Class == api.ClassS {
		build = tlv.BuildSub
	}
	b, e := build(f.Kids)
	return e == api.OK && rightCount(s, len(b))
}
