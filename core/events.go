package core

import (
	"turnstile/api"
	"turnstile/clock"
	"turnstile/digits"
	"turnstile/session"
)

func (l *link) isUp() bool { return l.State() != session.Down }

func (s *Switch) has(link int) bool { return 0 <= link && link < len(s.links) }

// mayBe tells whether an event may happen now.
func (s *Switch) mayBe(e api.Event) bool {
	switch e.Kind {
	case api.EvTick:
		return 1 <= e.N && e.N <= api.MaxTicks
	case api.EvUp:
		return s.has(e.Link) && !s.links[e.Link].isUp()
	case api.EvBytes, api.EvDown:
		return s.has(e.Link) && s.links[e.Link].isUp()
	}
	return false
}

// happens does what comes of an event that may be.
func (s *Switch) happens(e api.Event) {
	switch e.Kind {
	case api.EvTick:
		for range e.N {
			s.tick()
		}
	case api.EvUp:
		s.up(s.links[e.Link])
	case api.EvDown:
		s.links[e.Link].falls()
	case api.EvBytes:
		s.bytes(s.links[e.Link], e.Bytes)
	}
}

func (s *Switch) up(l *link) {
	l.Reset()
	s.say(l, l.Up())
}

func (l *link) falls() {
	l.Down()
	l.Reset()
	l.Break()
}

func (s *Switch) bytes(l *link, b string) {
	messages, e := l.Feed([]byte(b))
	for _, m := range messages {
		s.take(l, m)
	}
	if e != api.OK {
		s.close(l, e)
	}
}

// tick lets one tick go by. Numbers that are free again come behind what is late: that may need numbers, too.
func (s *Switch) tick() {
	s.ticks++
	late, gone := s.pending.Tick()
	for _, p := range late {
		s.timedOut(p)
	}
	for _, p := range gone {
		s.numbers.Free(p.Number)
	}
	for _, l := range s.links {
		if l.isUp() {
			s.say(l, l.Session.Tick())
		}
	}
	for _, l := range s.links {
		l.Queue.Tick()
		s.pump(l)
	}
}

func (s *Switch) moment() int { return digits.Count(s.start, s.ticks, api.MaxMoment) }

func (s *Switch) stamp() string {
	stamp, _ := clock.Stamp(s.moment())
	return stamp
}
