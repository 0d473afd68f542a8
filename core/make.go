package core

import (
	"slices"
	"strings"

	"turnstile/api"
	"turnstile/frame"
	"turnstile/grammar"
	"turnstile/pending"
	"turnstile/route"
	"turnstile/saf"
	"turnstile/seal"
	"turnstile/session"
	"turnstile/stan"
	"turnstile/standin"
	"turnstile/totals"
)

// link is what is known of one: what its layers keep, and what the configuration says.
type link struct {
	*frame.Stream
	*session.Session
	*saf.Queue
	stack   stack
	dialect api.Dialect
	number  int
	role    int
	header  int
	most    int
	tagged  bool
	id      string
	pin     string // empty: it has no such key
}

// newSwitch is of a configuration that is right: so nothing that is called here, and in what follows, refuses it.
func newSwitch(c api.Config, kind int) *Switch {
	s := &Switch{
		start:  c.Start,
		routes: route.New[api.Group](),
		asked:  asked{},
		done:   newest[*doing]{most: c.Pending},
		keys:   newest[api.Key]{most: c.Pending},
	}
	s.slots, _ = seal.NewSlots(len(c.Links))
	s.pending, _ = pending.New(c.Pending, c.Timeout, c.Late)
	s.numbers, _ = stan.New(c.Numbers)
	s.echo, _ = stan.NewEcho(stampField, numberField, acquirerField, referenceField)
	s.book, _ = standin.New(c.Cards)
	s.totals, _ = totals.New(len(c.Links))
	s.makeLinks(c, kind)
	s.makeRoutes(c)
	return s
}

func (s *Switch) makeLinks(c api.Config, kind int) {
	var dialects []api.Dialect
	var stacks []stack
	for _, d := range c.Dialects {
		own := ownDialect(d)
		dialects = append(dialects, own)
		stacks = append(stacks, newStack(own, kind))
	}
	for i, l := range c.Links {
		made := newLink(c, i)
		made.dialect, made.stack = dialects[l.Dialect], stacks[l.Dialect]
		s.links = append(s.links, made)
		if made.tagged {
			s.slots.Put(i, l.MAC, l.Pad, l.Key, l.Exchange)
		}
	}
}

// newLink is one without its dialect.
func newLink(c api.Config, number int) *link {
	l := c.Links[number]
	made := &link{
		number: number,
		role:   l.Role,
		header: l.Header,
		most:   l.Most,
		tagged: l.MAC != 0,
		id:     strings.Clone(l.ID),
		pin:    strings.Clone(l.PIN),
	}
	made.Stream, _ = frame.New(l.Header, l.Most)
	made.Session, _ = session.New(l.Role, l.Echo, l.Answer)
	made.Queue, _ = saf.New(c.Queue, c.Retry, c.Tries)
	return made
}

func (s *Switch) makeRoutes(c api.Config) {
	var groups []api.Group
	for _, g := range c.Groups {
		groups = append(groups, api.Group{Links: slices.Clone(g.Links), Standin: g.Standin})
	}
	for _, r := range c.Routes {
		s.routes.Put(strings.Clone(r.Prefix), groups[r.Group])
	}
}

// ownDialect is a dialect in memory of its own.
func ownDialect(d api.Dialect) api.Dialect {
	own := d
	own.Name = strings.Clone(d.Name)
	own.Fields = slices.Clone(d.Fields)
	own.Rules = nil
	for _, r := range d.Rules {
		r, _ = grammar.Rule(d, r.MTI) // it tells a copy
		own.Rules = append(own.Rules, r)
	}
	return own
}
