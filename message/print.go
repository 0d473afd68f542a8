package message

import (
	"strconv"
	"strings"

	"turnstile/api"
)

const sixteenths = "0123456789ABCDEF"

// printer is the lines that were written.
type printer struct{ strings.Builder }

// line writes a field (deep 0) or a node, and the nodes within it.
func (p *printer) line(deep, number int, value string, kids []api.Node) {
	for range deep {
		p.WriteByte('.')
	}
	p.WriteString(strconv.Itoa(number))
	if len(kids) == 0 {
		p.WriteByte('=')
		p.value(value)
		p.WriteByte('\n')
		return
	}
	p.WriteString(":\n")
	for _, n := range kids {
		p.line(deep+1, n.Tag, n.Value, n.Kids)
	}
}

func (p *printer) value(s string) {
	for i := range len(s) {
		if isPlain(s[i]) {
			p.WriteByte(s[i])
			continue
		}
		p.WriteByte('\\')
		p.WriteByte(sixteenths[s[i]>>4])
		p.WriteByte(sixteenths[s[i]&15])
	}
}

// isPlain tells whether a byte is written as it is.
func isPlain(c byte) bool { return ' ' <= c && c <= '~' && c != '\\' }
