package core

import (
	"turnstile/api"
	"turnstile/digits"
	"turnstile/message"
	"turnstile/session"
	"turnstile/tlv"
)

// Classes and functions of messages.
const (
	authorization  = 1
	payment        = 2
	reversal       = 4
	reconciliation = 5
	network        = 8

	request      = 0
	answer       = 1
	advice       = 2
	adviceAnswer = 3
)

// Tags in field 48 of a new key.
const (
	wrappedTag = 1
	checkTag   = 2
)

// stop is why a message can't go on: it is refused, or answered with a code. It is the value of the panic that gives the message up.
type stop struct {
	refused  api.Errno
	answered string
}

func refuse(code api.Errno) { panic(stop{refused: code}) }

func decline(code string) { panic(stop{answered: code}) }

// take takes the bytes of a message that came over a link.
func (s *Switch) take(l *link, b string) {
	m, code, at := s.read(l, b)
	if code != api.OK {
		s.reject(l, code, at)
		return
	}
	why := s.handle(l, m)
	if why.refused != api.OK {
		s.reject(l, why.refused, 0)
	}
	if why.answered != "" {
		s.answerWith(l, why.answered, m)
	}
	s.pump(l)
}

// read is the message without its tag; with an error: the place.
func (s *Switch) read(l *link, b string) (api.Message, api.Errno, int) {
	m, defect := l.stack.Parse(b)
	if defect.Code != api.OK {
		return m, defect.Code, defect.At
	}
	if l.tagged {
		at := len(b) - tagSize // each message of such a link has room for a tag
		if right, _ := s.slots.Right(l.number, b[:at], b[at:]); !right {
			return api.Message{}, api.ErrSeal, at
		}
	}
	return message.Without(m, l.dialect.MAC), api.OK, 0
}

// handle does what a message asks for, up to where it can't go on, if that is so.
func (s *Switch) handle(l *link, m api.Message) (why stop) {
	defer func() {
		if given := recover(); given != nil {
			why = given.(stop) // any other value is a fault of the program: it stays a panic
		}
	}()
	if message.Class(m.MTI) == network {
		s.speaks(l, m)
		return stop{}
	}
	if !l.Ready() {
		refuse(api.ErrOff)
	}
	l.Heard()
	if l.role == api.Acquirer {
		s.fromAcquirer(l, m)
	} else {
		s.fromIssuer(l, m)
	}
	return stop{}
}

// speaks takes what the other side says of the link itself.
func (s *Switch) speaks(l *link, m api.Message) {
	code := valueOf(m, networkField)
	switch {
	case message.Function(m.MTI) == answer:
		l.Answered(code, valueOf(m, codeField))
	case code == session.NewKey:
		s.newKey(l, m)
	default:
		if say := l.Asked(code); say.Answer != "" {
			s.answerWith(l, say.Answer, m)
		}
	}
}

func (s *Switch) newKey(l *link, m api.Message) {
	if s.slots.Change(l.number, hexOf(m, wrappedTag), hexOf(m, checkTag)) != api.OK {
		decline(wrongKey)
	}
	s.answerWith(l, granted, m)
}

// hexOf is what the first of field 48's sub-elements with a tag says in sixteenths. It is empty, if there is none, or it says nothing so: no key is empty, and no check value.
func hexOf(m api.Message, tag int) string {
	n, _ := tlv.Find(kidsOf(m, keyField), tag)
	b, _, _ := digits.Unhex(n.Value)
	return b
}

func (s *Switch) fromAcquirer(l *link, m api.Message) {
	class, function := message.Class(m.MTI), message.Function(m.MTI)
	switch {
	case isOfCards(class) && function == request:
		s.takeRequest(l, m)
	case isOfCards(class) && function == advice:
		s.takeAdvice(l, m)
	case class == reversal && function == advice:
		s.takeReversal(l, m)
	case class == reconciliation && function == request:
		s.settle(l, m)
	default:
		refuse(api.ErrKind)
	}
}

func (s *Switch) fromIssuer(l *link, m api.Message) {
	class, function := message.Class(m.MTI), message.Function(m.MTI)
	switch {
	case isOfCards(class) && function == answer:
		s.takeAnswer(l, m)
	case (isOfCards(class) || class == reversal) && function == adviceAnswer:
		s.acknowledged(l, m)
	default:
		refuse(api.ErrKind)
	}
}

func isOfCards(class int) bool { return class == authorization || class == payment }
