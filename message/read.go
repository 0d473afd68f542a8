package message

import (
	"strconv"
	"strings"

	"turnstile/api"
)

// line is what a line of a printed message says: a field's (deep 0), or a node's.
type line struct {
	deep   int
	number int
	open   bool // Kids follow
	value  string
}

// place is what may stand in the line behind some.
type place struct {
	least, most int // how deep
	field       int // the number of the last field
	nodes       int // how many it has up to here
}

// readLines takes the lines behind the type; else the number of the first one that can't stand there, from 1 on.
func readLines(s string) ([]line, int) {
	var l []line
	var p place
	for s != "" {
		text, rest, ok := strings.Cut(s, "\n")
		if !ok {
			return nil, len(l) + 1
		}
		next, ok := readLine(text)
		if !ok || !p.takes(next) {
			return nil, len(l) + 1
		}
		l, p, s = append(l, next), p.behind(next), rest
	}
	if p.least > 0 {
		return nil, len(l) + 1
	}
	return l, 0
}

func readLine(text string) (line, bool) {
	rest := strings.TrimLeft(text, ".")
	end := strings.IndexAny(rest, ":=")
	if end < 0 {
		return line{}, false
	}
	number, ok := readNumber(rest[:end])
	if !ok {
		return line{}, false
	}
	l := line{deep: len(text) - len(rest), number: number, open: rest[end] == ':'}
	if l.open {
		return l, end+1 == len(rest)
	}
	l.value, ok = readValue(rest[end+1:])
	return l, ok
}

// readNumber takes digits without noughts ahead alone: strconv by itself would take a sign and noughts too.
func readNumber(s string) (int, bool) {
	n, err := strconv.Atoi(s)
	return n, err == nil && n >= 0 && strconv.Itoa(n) == s
}

// readValue takes each byte in the one form alone in which it is written.
func readValue(s string) (string, bool) {
	var b strings.Builder
	for i := 0; i < len(s); i++ {
		if isPlain(s[i]) {
			b.WriteByte(s[i])
			continue
		}
		if s[i] != '\\' || i+2 >= len(s) {
			return "", false
		}
		high, low := strings.IndexByte(sixteenths, s[i+1]), strings.IndexByte(sixteenths, s[i+2])
		c := byte(high<<4 | low)
		if high < 0 || low < 0 || isPlain(c) {
			return "", false
		}
		b.WriteByte(c)
		i += 2
	}
	return b.String(), true
}

// takes tells whether a line may stand there; one that Kids must follow, only if there is room for one.
func (p place) takes(l line) bool {
	switch {
	case l.deep < p.least || l.deep > p.most:
		return false
	case l.deep == 0:
		return isField(l.number) && l.number > p.field
	case l.open:
		return l.deep < api.MaxNest && p.nodes+1 < api.MaxNodes
	}
	return p.nodes < api.MaxNodes
}

// behind is what may stand behind a line that was taken.
func (p place) behind(l line) place {
	if l.deep == 0 {
		p.field, p.nodes = l.number, 0
	} else {
		p.nodes++
	}
	p.least, p.most = 0, l.deep
	if l.open {
		p.least, p.most = l.deep+1, l.deep+1
	}
	return p
}

// fieldsOf is the fields of lines that were taken.
func fieldsOf(lines []line) []api.Field {
	var l []api.Field
	for len(lines) > 0 {
		first := lines[0]
		f := api.Field{Number: first.number, Value: first.value}
		f.Kids, lines = nodesOf(lines[1:], 1)
		l = append(l, f)
	}
	return l
}

// nodesOf is the nodes so deep that lines begin with, and the lines behind them.
func nodesOf(lines []line, deep int) ([]api.Node, []line) {
	var l []api.Node
	for len(lines) > 0 && lines[0].deep == deep {
		first := lines[0]
		n := api.Node{Tag: first.number, Value: first.value}
		n.Kids, lines = nodesOf(lines[1:], deep+1)
		l = append(l, n)
	}
	return l, lines
}
