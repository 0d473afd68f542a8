package session_test

import (
	"slices"
	"testing"

	"turnstile/api"
	"turnstile/session"
)

// A second reading of the chapter: it counts no waits, but knows at which tick what matters happened.

type reading struct {
	role, echo, answer int
	state              int
	now                int // ticks since it was made
	first              int // the tick at which the first of the questions was asked that go on now
	came               int // the tick at which something came last
}

func (m *reading) tell(x told) session.Say {
	switch x.call {
	case "Up":
		m.state, m.first = session.Open, m.now
		if m.role == api.Issuer {
			m.state = session.Signing
			return question("001")
		}
	case "Down":
		m.state = session.Down
	case "Heard":
		m.came = m.now
	case "Asked":
		m.came = m.now
		return m.asked(x.code)
	case "Answered":
		m.came = m.now
		if x == answered("001", "00") && m.state == session.Signing || x.code == "301" && m.state == session.Testing {
			m.state = session.On
		}
	case "Tick":
		m.now++
		return m.tick()
	}
	return nothing()
}

func (m *reading) asked(code string) session.Say {
	if m.state == session.Down {
		return nothing()
	}
	kind := slices.Index(codes, code)
	if kind < 0 || kind == 0 && m.role == api.Issuer {
		return answer(code, "12")
	}
	m.state = []int{session.On, session.Open, m.state, m.state}[kind]
	return answer(code, "00")
}

func (m *reading) tick() session.Say {
	turn := (m.now-m.first)%m.answer == 0
	switch {
	case m.state == session.Signing && turn:
		return question("001")
	case m.state == session.On && m.role == api.Issuer && m.echo > 0 && m.now == m.came+m.echo:
		m.state, m.first = session.Testing, m.now
		return question("301")
	case m.state == session.Testing && m.now == m.first+3*m.answer:
		m.state = session.Down
		return lost()
	case m.state == session.Testing && turn:
		return question("301")
	}
	return nothing()
}

// both is a Session, and what the chapter says of one.
type both struct {
	s *session.Session
	m reading
}

func newBoth(t *testing.T, role, echo, answer int) *both {
	t.Helper()
	return &both{made(t, role, echo, answer), reading{role: role, echo: echo, answer: answer}}
}

// tell tells both, and tells whether they go on alike.
func (b *both) tell(x told) (session.Say, bool) {
	says := tell(b.s, x)
	return says, says == b.m.tell(x) && b.stands()
}

// stands asks twice, since asking changes nothing.
func (b *both) stands() bool {
	ready := b.m.state == session.On || b.m.state == session.Testing
	for range 2 {
		if b.s.State() != b.m.state || b.s.Ready() != ready {
			return false
		}
	}
	return true
}

// run tells both a list of things.
func (b *both) run(t *testing.T, l []told) {
	t.Helper()
	for i, x := range l {
		was := b.m
		if says, ok := b.tell(x); !ok {
			now := was
			want := now.tell(x)
			t.Fatalf("16.2 to 16.6: of %+v, behind %v, %v says %+v, and the state is %d (Ready %v); must be %+v, %d", was, l[max(0, i-12):i], x, says, b.s.State(), b.s.Ready(), want, now.state)
		}
	}
}
