package core

import (
	"turnstile/api"
	"turnstile/card"
	"turnstile/clock"
	"turnstile/message"
	"turnstile/pin"
	"turnstile/route"
)

// plainPIN is the format in which PINs come, and go on.
const plainPIN = 0

func (s *Switch) takeRequest(from *link, m api.Message) {
	if s.pending.Has(message.Key(m, from.number)) {
		refuse(api.ErrTwice)
	}
	s.screen(m)
	g := s.groupOf(m)
	to, ok := route.Choose(g, s.readiness())
	if ok {
		s.numbered(func(number int) { s.forward(from, s.links[to], m, number) })
		return
	}
	if hasField(m, pinField) {
		decline(notAsked)
	}
	s.numbered(func(number int) { s.standIn(from, g, m, number) })
}

// readiness is of each link whether it is ready.
func (s *Switch) readiness() []bool {
	var ready []bool
	for _, l := range s.links {
		ready = append(ready, l.Ready())
	}
	return ready
}

// screen gives up a request that may go nowhere, whatever its card's prefix.
func (s *Switch) screen(m api.Message) {
	switch {
	case card.Right(card.Number(m)) != api.OK:
		decline(wrongCard)
	case s.isExpired(card.Expiry(m)):
		decline(expired)
	case !hasField(m, amountField):
		decline(noAmount)
	}
}

// isExpired is asked of what is empty, if a message does not tell it.
func (s *Switch) isExpired(expiry string) bool {
	now, _ := clock.Date(s.moment())
	over, e := card.Expired(expiry, now.Year, now.Month)
	return expiry != "" && (over || e != api.OK)
}

// groupOf is where a message's card belongs.
func (s *Switch) groupOf(m api.Message) api.Group {
	g, _, ok := s.routes.Find(card.Number(m))
	if !ok {
		decline(unknownCard)
	}
	return g
}

// numbered does a thing under a number of its own, which is given back, if the thing is given up.
func (s *Switch) numbered(do func(number int)) {
	number, e := s.numbers.Take()
	if e != api.OK {
		decline(noRoom)
	}
	kept := false
	defer func() {
		if !kept {
			s.numbers.Free(number)
		}
	}()
	do(number)
	kept = true
}

// forward lets a request go on to an issuer, to wait for its answer.
func (s *Switch) forward(from, to *link, m api.Message, number int) {
	sent := s.passed(m, from, number)
	if block, has := message.Get(m, pinField); has {
		sent = laid(sent, text(pinField, moved(from, to, block, card.Number(m))))
	}
	whole, e, _ := s.write(to, sent)
	if e != api.OK {
		decline(unwritable)
	}
	p := api.Pending{Key: message.Key(m, from.number), From: from.number, To: to.number, Number: number, Request: m, Sent: sent}
	if s.pending.Add(p) != api.OK {
		decline(noRoom)
	}
	s.asked.add(p.Key)
	s.echo.Save(number, m)
	s.goOut(to, whole)
}

// moved is a PIN block under another link's key.
func moved(from, to *link, block, pan string) string {
	if from.pin == "" || to.pin == "" {
		decline(wrongKey)
	}
	b, e := pin.Move(from.pin, to.pin, plainPIN, plainPIN, block, pan, "")
	if e != api.OK {
		decline(wrongPIN)
	}
	return b
}

// standIn approves a request in the place of a group that can't be asked, and tells it later.
func (s *Switch) standIn(from *link, g api.Group, m api.Message, number int) {
	a := approval{card.Number(m), countOf(m, amountField), s.ticks}
	if s.book.Ask(g.Standin, a.card, a.units, a.at) != api.OK {
		decline(notAsked)
	}
	to, approved := s.links[g.Links[0]], text(approvalField, sixDigits(number))
	told := laid(s.toldOf(m, from, number), approved, text(codeField, granted))
	if s.layDown(to, number, told) != api.OK {
		s.undo(a)
		decline(notAsked)
	}
	s.answerWith(from, granted, m, approved)
	s.done.add(&doing{key: meant(message.Key(m, from.number)), to: to, sent: told, approval: a})
}

func (s *Switch) undo(a approval) { s.book.Undo(a.card, a.units, a.at) }
