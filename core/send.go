package core

import (
	"turnstile/api"
	"turnstile/frame"
	"turnstile/grammar"
	"turnstile/message"
	"turnstile/session"
)

const (
	tagSize  = 8
	noughts  = "\x00\x00\x00\x00\x00\x00\x00\x00" // in the place of a tag
	question = "0800"
)

func (s *Switch) put(o api.Output) { s.outputs = append(s.outputs, o) }

func (s *Switch) reject(l *link, code api.Errno, at int) {
	s.put(api.Output{Kind: api.OutReject, Link: l.number, Code: code, At: at})
}

// write is a message as a frame of a link; with an error: the field that can't be so, if there is one.
func (s *Switch) write(l *link, m api.Message) (string, api.Errno, int) {
	m = grammar.Cut(l.dialect, m)
	if l.tagged {
		var e api.Errno
		if m, e = message.With(m, text(l.dialect.MAC, noughts)); e != api.OK {
			return "", e, 0
		}
	}
	b, e, field := l.stack.Build(m)
	if e != api.OK {
		return "", e, field
	}
	if l.tagged {
		ahead := b[:len(b)-tagSize]
		tag, _ := s.slots.Tag(l.number, ahead)
		b = ahead + tag
	}
	whole, e := frame.Wrap(l.header, l.most, b)
	return whole, e, 0
}

func (s *Switch) send(l *link, m api.Message) {
	whole, e, field := s.write(l, m)
	if e != api.OK {
		s.reject(l, e, field)
		return
	}
	s.goOut(l, whole)
}

func (s *Switch) goOut(l *link, whole string) {
	s.put(api.Output{Kind: api.OutFrame, Link: l.number, Bytes: whole})
}

// say does what a session told that is no answer. A question's number is free at once: nothing is kept under it.
func (s *Switch) say(l *link, told session.Say) {
	if told.Lost {
		s.close(l, api.ErrState)
	}
	if told.Code == "" {
		return
	}
	number, e := s.numbers.Take()
	if e != api.OK {
		return
	}
	s.numbers.Free(number)
	mti, _ := message.In(question, l.dialect.Version)
	s.send(l, laid(api.Message{MTI: mti}, text(stampField, s.stamp()), text(numberField, sixDigits(number)), text(networkField, told.Code)))
}

func (s *Switch) close(l *link, code api.Errno) {
	s.put(api.Output{Kind: api.OutClose, Link: l.number, Code: code})
	l.falls()
}

// answerWith answers a message that came over a link, with a code and some fields more. Those that are not of cards Note refuses: they are not counted.
func (s *Switch) answerWith(l *link, code string, m api.Message, more ...api.Field) {
	reply, _ := message.Reply(m, code)
	s.totals.Note(l.number, m, reply)
	s.send(l, laid(reply, more...))
}

// pump sends what a link must be told now. What was given up gives its number back.
func (s *Switch) pump(l *link) {
	if m, ok := l.Next(l.Ready()); ok {
		s.send(l, m)
	}
	for _, number := range l.Gone() {
		s.numbers.Free(number)
	}
}

// layDown lays what a link must be told, under a number, behind what waits for it.
func (s *Switch) layDown(l *link, number int, m api.Message) api.Errno {
	again := m
	again.MTI, _ = message.Again(m.MTI)
	if e := l.Put(api.Advice{Link: l.number, Number: number, Message: m, Repeat: again}); e != api.OK {
		return e
	}
	s.pump(l)
	return api.OK
}
