package shell

import (
	"cmp"
	"slices"
	"strings"

	"turnstile/api"
)

// command does what a line of a script says.
type command func(p *player)

// commandsOf reads the lines that are left. If it can't, the reader stands at the line that is wrong.
func commandsOf(r *reader, links map[string]int) ([]command, bool) {
	var all []command
	for r.next() {
		l := r.line()
		do := commandOf(l, links)
		if !l.isRight() {
			return nil, false
		}
		all = append(all, do)
	}
	return all, true
}

// commandOf is of a line that has one; else that is wrong.
func commandOf(l *line, links map[string]int) command {
	switch l.word() {
	case "up":
		return event(api.Event{Kind: api.EvUp, Link: l.place(links)})
	case "down":
		return event(api.Event{Kind: api.EvDown, Link: l.place(links)})
	case "tick":
		n := l.number()
		l.must(1 <= n && n <= api.MaxTicks)
		return event(api.Event{Kind: api.EvTick, N: n})
	case "bytes":
		return event(api.Event{Kind: api.EvBytes, Link: l.place(links), Bytes: l.hex()})
	case "send":
		link, s := l.place(links), sayingOf(l)
		return func(p *player) { p.send(link, s) }
	case "key":
		link, key := l.place(links), l.hex()
		return func(p *player) { p.keys[link] = key }
	case "view":
		return func(p *player) { p.tellView() }
	case "waiting":
		return func(p *player) { p.tellWaiting() }
	case "queued":
		link := l.place(links)
		return func(p *player) { p.tellQueued(link) }
	case "check":
		return func(p *player) { p.check() }
	}
	l.wrong = true
	return nil
}

func event(e api.Event) command { return func(p *player) { p.happens(e) } }

// saying is a message as a line says it: its type and its fields, by rising numbers.
type saying struct {
	mti   string
	parts []part
}

// part is a field as a line says it.
type part struct {
	number int
	bytes  string
	isHex  bool // the bytes are said in sixteenths
}

// mostParted is how many digits the number of a field has at most.
const mostParted = 3

func sayingOf(l *line) saying {
	s := saying{mti: l.mti()}
	for len(l.left) > 0 {
		p, ok := partOf(l.word())
		l.must(ok)
		s.parts = append(s.parts, p)
	}
	slices.SortFunc(s.parts, byNumber)
	for i := 1; i < len(s.parts); i++ {
		l.must(s.parts[i].number != s.parts[i-1].number)
	}
	return s
}

func byNumber(a, b part) int { return cmp.Compare(a.number, b.number) }

func partOf(w string) (part, bool) {
	number, value, _ := strings.Cut(w, "=")
	n, ok := numberOf(number)
	if !ok || len(number) > mostParted || value == "" {
		return part{}, false
	}
	if value[0] == inHex[0] {
		b, ok := hexOf(value[1:])
		return part{number: n, bytes: b, isHex: true}, ok
	}
	return part{number: n, bytes: strings.ReplaceAll(value, forBlank, " ")}, true
}
