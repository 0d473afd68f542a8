package pin

import "strings"

// sixteenths are the characters of half bytes, each at the place that it is worth.
const sixteenths = "0123456789ABCDEF"

// sixteenth is the character of a number from 0 to 15.
func sixteenth(n int) string { return sixteenths[n : n+1] }

// worth is the number of a character that is one.
func worth(c byte) int { return strings.IndexByte(sixteenths, c) }

// pack puts sixteenths together as bytes; all parts together have an even number of them.
func pack(parts ...string) string {
	all := strings.Join(parts, "")
	b := make([]byte, len(all)/2)
	for i := range b {
		b[i] = byte(worth(all[2*i])<<4 | worth(all[2*i+1]))
	}
	return string(b)
}

// spread is the sixteenths of bytes.
func spread(b string) string {
	s := make([]byte, 0, 2*len(b))
	for i := range len(b) {
		s = append(s, sixteenths[b[i]>>4], sixteenths[b[i]&15])
	}
	return string(s)
}

func allSixteenths(s string) bool {
	for i := range len(s) {
		if worth(s[i]) < 0 {
			return false
		}
	}
	return true
}

func allDigits(s string) bool {
	for i := range len(s) {
		if s[i] < '0' || s[i] > '9' {
			return false
		}
	}
	return true
}
