package shell

import (
	"slices"
	"strings"

	"turnstile/api"
	"turnstile/digits"
)

// Names, in the order of api's numbers, which begin with 1.
const (
	encodings = "ascii bcd bcdr ebcdic binary"
	classes   = "n a an ans b z x t s"
	roles     = "acquirer issuer"
	headers   = "two four bcd whole"
)

const (
	mostName   = 16
	mostNumber = 12 // digits
	typeSize   = 4
)

// none stands in the place of a key that there is not.
const none = "-"

// line is what a line says, taken word by word. Where a word is not there, or another one than is wanted, the line is wrong; what is told of it then is not used.
type line struct {
	left  []string
	wrong bool
}

// must makes the line wrong, if something is not so.
func (l *line) must(ok bool) {
	if !ok {
		l.wrong = true
	}
}

// isRight tells whether all of the line was taken, and as it was wanted.
func (l *line) isRight() bool { return !l.wrong && len(l.left) == 0 }

// word is empty, if none is left; no line wants such a word.
func (l *line) word() string {
	if len(l.left) == 0 {
		return ""
	}
	w := l.left[0]
	l.left = l.left[1:]
	return w
}

func (l *line) says(w string) { l.must(l.word() == w) }

func (l *line) number() int {
	n, ok := numberOf(l.word())
	l.must(ok)
	return n
}

// numbers are as many as stand there, perhaps none.
func (l *line) numbers() []int {
	var all []int
	for len(l.left) > 0 {
		n, ok := numberOf(l.left[0])
		if !ok {
			break
		}
		all, l.left = append(all, n), l.left[1:]
	}
	return all
}

func (l *line) digits() string {
	w := l.word()
	l.must(isRow(w, isDigit))
	return strings.Clone(w)
}

func (l *line) mti() string {
	w := l.digits()
	l.must(len(w) == typeSize)
	return w
}

func (l *line) name() string {
	w := l.word()
	l.must(len(w) <= mostName && isRow(w, isOfNames))
	return strings.Clone(w)
}

// place is that of a thing which has a name already.
func (l *line) place(of map[string]int) int {
	n, there := of[l.word()]
	l.must(there)
	return n
}

// code is the number of one of some names.
func (l *line) code(names string) int {
	n := 1 + slices.Index(strings.Fields(names), l.word())
	l.must(n > 0)
	return n
}

func (l *line) hex() string {
	b, ok := hexOf(l.word())
	l.must(ok)
	return b
}

// hexOrNone is empty, if there is none.
func (l *line) hexOrNone() string {
	if len(l.left) > 0 && l.left[0] == none {
		l.left = l.left[1:]
		return ""
	}
	return l.hex()
}

func (l *line) moment() int {
	n, ok := momentOf(l.word() + " " + l.word())
	l.must(ok)
	return n
}

// numberOf is a number that is written without noughts ahead.
func numberOf(w string) (int, bool) {
	n, e := digits.Number(w)
	return n, e == api.OK && len(w) <= mostNumber && (w == "0" || w[0] != '0')
}

func hexOf(w string) (string, bool) {
	b, e, _ := digits.Unhex(w)
	return b, e == api.OK && b != ""
}

// isRow tells whether a text is one or more bytes of a kind.
func isRow(s string, fits func(byte) bool) bool {
	for i := range len(s) {
		if !fits(s[i]) {
			return false
		}
	}
	return s != ""
}

func isDigit(c byte) bool { return '0' <= c && c <= '9' }

func isOfNames(c byte) bool { return 'a' <= c && c <= 'z' || isDigit(c) || c == '-' }
