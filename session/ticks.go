package session

import "turnstile/api"

// mostTries is how often the other side is asked in vain whether it is there, until it is given up.
const mostTries = 3

// Tick tells that a tick went by.
func (s *Session) Tick() Say {
	tick := s.ticking()
	return tick()
}

// ticking is what a tick does in the state.
func (s *Session) ticking() func() Say {
	switch s.state {
	case Signing:
		return s.tickSigning
	case On:
		return s.tickOn
	case Testing:
		return s.tickTesting
	}
	return s.tickIdle
}

func (s *Session) tickSigning() Say {
	if s.waits() {
		return Say{}
	}
	return s.ask(SignOn)
}

func (s *Session) tickOn() Say {
	if s.role == api.Acquirer || s.echo == 0 {
		return Say{}
	}
	s.quiet++
	if s.quiet < s.echo {
		return Say{}
	}
	s.state, s.tries = Testing, 1
	return s.ask(Echo)
}

func (s *Session) tickTesting() Say {
	if s.waits() {
		return Say{}
	}
	if s.tries == mostTries {
		s.Down()
		return Say{Lost: true}
	}
	s.tries++
	return s.ask(Echo)
}

func (s *Session) tickIdle() Say { return Say{} }

// waits counts a tick of the wait: whether that goes on.
func (s *Session) waits() bool {
	s.wait++
	return s.wait < s.answer
}
