package route

const (
	mostPrefix = 19 // digits of a trie's prefix
	mostRoute  = 11 // digits of a route's prefix
	mostID     = 11 // digits of a link's institution
	mostName   = 16 // characters of a link's or a group's name
	mostTries  = 100
	shortKey   = 8 // bytes
	longKey    = 16
)

// isNumber tells whether a text is digits, at least one and at most so many.
func isNumber(s string, most int) bool {
	for i := range len(s) {
		if !isDigit(s[i]) {
			return false
		}
	}
	return within(len(s), 1, most)
}

// isName tells whether a link or a group may be called so.
func isName(s string) bool {
	for i := range len(s) {
		if c := s[i]; (c < 'a' || c > 'z') && !isDigit(c) && c != '-' {
			return false
		}
	}
	return within(len(s), 1, mostName)
}

func isDigit(c byte) bool { return '0' <= c && c <= '9' }

// isPlace tells whether a list of so many has something at a place.
func isPlace(n, many int) bool { return 0 <= n && n < many }

func within(n, least, most int) bool { return least <= n && n <= most }
