package core

import (
	"turnstile/api"
	"turnstile/message"
)

// takeAnswer takes an issuer's answer to where its request came from.
func (s *Switch) takeAnswer(over *link, m api.Message) {
	number := countOf(m, numberField)
	p, e := s.pending.Answer(over.number, number)
	if e == api.ErrNone {
		refuse(e)
	}
	s.numbers.Free(number)
	if e == api.ErrLate {
		return
	}
	s.asked.drop(p.Key)
	back := s.restored(m, p)
	if from := s.links[p.From]; from.Ready() {
		s.totals.Note(from.number, p.Request, back)
		s.send(from, back)
	}
	if valueOf(m, codeField) == granted {
		s.done.add(&doing{key: meant(p.Key), to: over, sent: p.Sent})
	}
}

// restored is an answer as its request's link knows it.
func (s *Switch) restored(m api.Message, p api.Pending) api.Message {
	back, _ := s.echo.Restore(p.Number, m)
	s.echo.Drop(p.Number)
	back.MTI, _ = message.Answer(p.Request.MTI)
	return back
}

// timedOut answers a request that waited in vain, and takes it back.
func (s *Switch) timedOut(p api.Pending) {
	s.asked.drop(p.Key)
	s.echo.Drop(p.Number)
	from, to := s.links[p.From], s.links[p.To]
	if from.Ready() {
		s.answerWith(from, tooLate, p.Request)
	}
	if e := s.takeBack(to, p.Sent); e != api.OK {
		s.reject(to, e, 0)
	}
}

// takeBack lays down what takes back a message that was sent over a link.
func (s *Switch) takeBack(l *link, sent api.Message) api.Errno {
	number, e := s.numbers.Take()
	if e != api.OK {
		return e
	}
	back, e := message.Reversal(sent, sixDigits(number), s.stamp())
	if e == api.OK {
		e = s.layDown(l, number, back)
	}
	if e != api.OK {
		s.numbers.Free(number)
	}
	return e
}

// acknowledged takes an issuer's answer to what it was told.
func (s *Switch) acknowledged(l *link, m api.Message) {
	number := countOf(m, numberField)
	if !l.Queue.Answer(number) {
		refuse(api.ErrNone)
	}
	s.numbers.Free(number)
}
