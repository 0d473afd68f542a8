package pending

import (
	"strings"

	"turnstile/api"
	"turnstile/message"
)

// held is a request that waits, or is remembered.
type held struct {
	request api.Pending
	timer   int
	late    bool // it waited in vain: it is remembered, and its key may be another's
}

// name is by what an answer means a request.
type name struct{ to, number int }

func nameOf(p api.Pending) name { return name{p.To, p.Number} }

func (t *Table) holds(n name) bool {
	_, known := t.held[n]
	return known
}

// forget lets go of one whose timer is over or stopped: its request, which is the table's no more.
func (t *Table) forget(h *held) api.Pending {
	delete(t.held, nameOf(h.request))
	return h.request
}

// copied is a request in memory of its own.
func copied(p api.Pending) api.Pending {
	p.Key.Number = strings.Clone(p.Key.Number)
	p.Key.Stamp = strings.Clone(p.Key.Stamp)
	p.Key.Terminal = strings.Clone(p.Key.Terminal)
	p.Request = message.Copy(p.Request)
	p.Sent = message.Copy(p.Sent)
	return p
}
