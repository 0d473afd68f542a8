package shell

import "slices"

// What may come next in a text.
const (
	ends = iota // the line ends
	blank
	sign // a byte of a word
	mark // a remark begins
	odd  // a byte that may stand in remarks alone
)

// reader reads a text's lines, one behind the other.
type reader struct {
	text   string
	at     int      // the place of the byte that comes next
	number int      // that of the line that was read last; behind all of them one more
	words  []string // what that line says
	wrong  bool     // it has a byte that may not stand there
}

// next reads up to the next line that says something, or that is wrong; false: there is none.
func (r *reader) next() bool {
	var from int
	r.words, r.wrong = nil, false
line:
	r.number++
	if r.at == len(r.text) {
		return false
	}
blanks:
	switch r.comes() {
	case blank:
		r.at++
		goto blanks
	case sign:
		from = r.at
		goto word
	case odd:
		r.wrong = true
		goto remark // the rest may be anything as well
	case mark:
		goto remark
	}
	goto end
word:
	r.at++
	if r.comes() == sign {
		goto word
	}
	r.words = append(r.words, r.text[from:r.at])
	goto blanks
remark:
	r.at++
	if r.comes() != ends {
		goto remark
	}
end:
	if r.at < len(r.text) {
		r.at++
	}
	if len(r.words) == 0 && !r.wrong {
		goto line
	}
	return true
}

func (r *reader) comes() int {
	if r.at == len(r.text) {
		return ends
	}
	switch c := r.text[r.at]; {
	case c == '\n':
		return ends
	case c == ' ':
		return blank
	case c == '#':
		return mark
	case ' ' < c && c <= '~':
		return sign
	}
	return odd
}

// says tells whether the line has just these words; behind all lines there are none.
func (r *reader) says(these ...string) bool { return !r.wrong && slices.Equal(r.words, these) }

// line is the line that was read, to be taken word by word.
func (r *reader) line() *line { return &line{left: r.words, wrong: r.wrong} }
