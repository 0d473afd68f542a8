package core

import (
	"slices"

	"turnstile/api"
	"turnstile/message"
)

// Field 66.
const (
	agrees    = "1"
	disagrees = "2"
)

// How field 90 begins: a type, and the fields 11 and 7 of a message.
const (
	typeEnd   = 4
	numberEnd = 10
	stampEnd  = 20
)

// takeAdvice takes what an acquirer tells of a card, to be told to those whose it is.
func (s *Switch) takeAdvice(from *link, m api.Message) {
	key := message.Key(m, from.number)
	if slices.Contains(s.keys.things, key) {
		s.answerWith(from, granted, m)
		return
	}
	to := s.links[s.groupOf(m).Links[0]]
	s.numbered(func(number int) {
		if s.layDown(to, number, s.toldOf(m, from, number)) != api.OK {
			decline(noRoom)
		}
	})
	s.answerWith(from, granted, m)
	s.keys.add(key)
}

// takeReversal takes back a request that was done.
func (s *Switch) takeReversal(from *link, m api.Message) {
	key := message.Key(m, from.number)
	if slices.Contains(s.keys.things, key) {
		s.answerWith(from, granted, m)
		return
	}
	if !hasField(m, originalField) {
		decline(noOriginal)
	}
	s.unmake(originalOf(m, from.number))
	s.answerWith(from, granted, m)
	s.keys.add(key)
}

// originalOf is the request that a reversal means. (That of a type that is none has a class that no request has.)
func originalOf(m api.Message, link int) api.Key {
	all := valueOf(m, originalField)
	return api.Key{Link: link, Class: message.Class(all[:typeEnd]), Number: all[typeEnd:numberEnd], Stamp: all[numberEnd:stampEnd]}
}

// unmake takes back the oldest request of these that was done.
func (s *Switch) unmake(original api.Key) {
	if s.asked[original] > 0 {
		decline(stillWaits)
	}
	i := slices.IndexFunc(s.done.things, func(d *doing) bool { return d.key == original })
	if i < 0 {
		decline(notDone)
	}
	d := s.done.things[i]
	if s.takeBack(d.to, d.sent) != api.OK {
		decline(noRoom)
	}
	if d.approval.card != "" {
		s.undo(d.approval)
	}
	s.done.drop(i)
}

// settle answers a reconciliation with what the switch counted.
func (s *Switch) settle(l *link, m api.Message) {
	counted, _ := s.totals.Fields(l.number)
	code, verdict := unequal, disagrees
	if same, _ := s.totals.Settle(l.number, m); same {
		code, verdict = granted, agrees
	}
	s.answerWith(l, code, m, append(counted, text(agreesField, verdict))...)
}
