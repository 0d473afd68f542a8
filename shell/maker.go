package shell

import "turnstile/api"

// maker makes a configuration of lines.
type maker struct {
	config   api.Config
	dialects map[string]int // the places of things, by names
	links    map[string]int
	groups   map[string]int
	said     map[string]int // how often something was said that may be said once
}

func newMaker() *maker {
	return &maker{dialects: map[string]int{}, links: map[string]int{}, groups: map[string]int{}, said: map[string]int{}}
}

// takesAll takes lines up to one that says just these words (of none: to the end), which must come, and ahead of which nothing may be left out. If it can't, the reader stands at the line that is wrong.
func (m *maker) takesAll(r *reader, last ...string) bool {
	for r.next() && !r.says(last...) {
		if !m.takes(r.line()) {
			return false
		}
	}
	return r.says(last...) && m.said["start"] > 0 && m.said["table"] > 0 && m.said["queue"] > 0
}

func (m *maker) takes(l *line) bool {
	switch what := l.word(); what {
	case "dialect":
		m.takeDialect(l)
	case "field", "rule":
		m.takeOfDialect(l, what)
	case "link":
		m.takeLink(l)
	case "tags", "pin", "wait":
		m.takeOfLink(l, what)
	case "group":
		m.takeGroup(l)
	case "route":
		m.config.Routes = append(m.config.Routes, api.Route{Prefix: l.digits(), Group: l.place(m.groups)})
	case "start", "table", "queue":
		m.takeOfAll(l, what)
	default:
		return false
	}
	return l.isRight()
}

// once makes a line wrong that says a thing once more.
func (m *maker) once(l *line, what string) {
	l.must(m.said[what] == 0)
	m.said[what]++
}

// put keeps the place of a thing, if none ahead of it has its name.
func put(places map[string]int, name string, place int) {
	if _, there := places[name]; !there {
		places[name] = place
	}
}

func (m *maker) takeDialect(l *line) {
	d := api.Dialect{Name: l.name(), Version: l.number(), MTIEnc: l.code(encodings), MapEnc: l.code(encodings), MAC: l.number()}
	put(m.dialects, d.Name, len(m.config.Dialects))
	m.config.Dialects = append(m.config.Dialects, d)
}

// takeOfDialect takes what is said of the last dialect.
func (m *maker) takeOfDialect(l *line, what string) {
	n := len(m.config.Dialects)
	if n == 0 {
		l.wrong = true
		return
	}
	d := &m.config.Dialects[n-1]
	if what == "field" {
		d.Fields = append(d.Fields, fieldOf(l))
	} else {
		d.Rules = append(d.Rules, ruleOf(l))
	}
}

func fieldOf(l *line) api.FieldSpec {
	f := api.FieldSpec{Number: l.number(), Class: l.code(classes), Enc: l.code(encodings)}
	switch l.word() {
	case "fixed":
	case "var":
		f.Digits, f.LenEnc = l.number(), l.code(encodings)
	default:
		l.wrong = true
	}
	f.Size = l.number()
	return f
}

func ruleOf(l *line) api.Rule {
	r := api.Rule{MTI: l.mti()}
	l.says("must")
	r.Must = l.numbers()
	l.says("may")
	r.May = l.numbers()
	return r
}

func (m *maker) takeLink(l *line) {
	k := api.Link{Name: l.name(), Role: l.code(roles), Dialect: l.place(m.dialects), Header: l.code(headers), Most: l.number(), ID: l.digits()}
	put(m.links, k.Name, len(m.config.Links))
	m.config.Links = append(m.config.Links, k)
	delete(m.said, "tags")
	delete(m.said, "pin")
	delete(m.said, "wait")
}

// takeOfLink takes what is said of the last link.
func (m *maker) takeOfLink(l *line, what string) {
	n := len(m.config.Links)
	if n == 0 {
		l.wrong = true
		return
	}
	m.once(l, what)
	k := &m.config.Links[n-1]
	switch what {
	case "tags":
		k.MAC, k.Pad, k.Key, k.Exchange = l.number(), l.number(), l.hex(), l.hexOrNone()
	case "pin":
		k.PIN = l.hex()
	case "wait":
		k.Echo, k.Answer = l.number(), l.number()
	}
}

func (m *maker) takeGroup(l *line) {
	g := api.Group{Name: l.name()}
	g.Standin = api.Limits{Single: l.number(), Count: l.number(), Sum: l.number(), Window: l.number()}
	g.Links = append(g.Links, l.place(m.links))
	for len(l.left) > 0 {
		g.Links = append(g.Links, l.place(m.links))
	}
	put(m.groups, g.Name, len(m.config.Groups))
	m.config.Groups = append(m.config.Groups, g)
}

// takeOfAll takes numbers of the whole.
func (m *maker) takeOfAll(l *line, what string) {
	m.once(l, what)
	c := &m.config
	switch what {
	case "start":
		c.Start = l.moment()
	case "table":
		c.Pending, c.Timeout, c.Late, c.Cards, c.Numbers = l.number(), l.number(), l.number(), l.number(), l.number()
	case "queue":
		c.Queue, c.Retry, c.Tries = l.number(), l.number(), l.number()
	}
}
