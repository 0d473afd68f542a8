package session_test

import (
	"fmt"
	"math/rand"
	"testing"

	"turnstile/api"
	"turnstile/session"
)

var (
	roles  = []int{api.Acquirer, api.Issuer}
	states = []int{session.Down, session.Open, session.Signing, session.On, session.Testing}
	codes  = []string{"001", "002", "101", "301"}
	odd    = []string{"", "9", "0", "00", "1", "0001", "001 ", " 001", "0010", "002\x00", "01", "003", "100", "102", "300", "302", "3", "101101", "３０１", "\xFF", "00l"}
)

func nothing() session.Say { return session.Say{} }

func question(code string) session.Say { return session.Say{Code: code} }

func answer(code, a string) session.Say { return session.Say{Code: code, Answer: a} }

func lost() session.Say { return session.Say{Lost: true} }

func made(t *testing.T, role, echo, answer int) *session.Session {
	t.Helper()
	s, e := session.New(role, echo, answer)
	if s == nil || e != api.OK {
		t.Fatalf("16.1: New(%d, %d, %d) = %v, %d", role, echo, answer, s != nil, e)
	}
	return s
}

// told is one thing that a session is told.
type told struct {
	call         string
	code, answer string
}

func (x told) String() string {
	switch x.call {
	case "Asked":
		return fmt.Sprintf("Asked(%q)", x.code)
	case "Answered":
		return fmt.Sprintf("Answered(%q, %q)", x.code, x.answer)
	}
	return x.call
}

func up() told { return told{call: "Up"} }

func down() told { return told{call: "Down"} }

func heard() told { return told{call: "Heard"} }

func tick() told { return told{call: "Tick"} }

func asked(code string) told { return told{call: "Asked", code: code} }

func answered(code, answer string) told { return told{call: "Answered", code: code, answer: answer} }

func tell(s *session.Session, x told) session.Say {
	switch x.call {
	case "Up":
		return s.Up()
	case "Down":
		s.Down()
	case "Heard":
		s.Heard()
	case "Tick":
		return s.Tick()
	case "Asked":
		return s.Asked(x.code)
	case "Answered":
		return s.Answered(x.code, x.answer)
	}
	return nothing()
}

// step is a thing that is told, what must be said to it, and the state then.
type step struct {
	told
	says session.Say
	then int
}

// plays tells a session one thing behind the other.
func plays(t *testing.T, promise string, s *session.Session, l ...step) {
	t.Helper()
	for i, x := range l {
		if says := tell(s, x.told); says != x.says || s.State() != x.then {
			t.Fatalf("%s: the %d. of %v says %+v, and the state is %d; must be %+v, %d", promise, i+1, l, says, s.State(), x.says, x.then)
		}
		isReady(t, s)
	}
}

func isReady(t *testing.T, s *session.Session) {
	t.Helper()
	for range 2 {
		if n := s.State(); s.Ready() != (n == session.On || n == session.Testing) {
			t.Fatalf("16.1: in the state %d Ready() = %v", n, s.Ready())
		}
	}
}

// quietTicks tells so many ticks, to which nothing may be said, and in which the state stays.
func quietTicks(t *testing.T, promise string, s *session.Session, n int) {
	t.Helper()
	state := s.State()
	for i := range n {
		if says := s.Tick(); says != nothing() || s.State() != state {
			t.Fatalf("%s: in the state %d the %d. tick of %d says %+v, and the state is %d", promise, state, i+1, n, says, s.State())
		}
	}
	isReady(t, s)
}

// gone is how many ticks of the wait, or of the quiet, have gone by in a session that puts has made.
const gone = 2

// puts makes a session with ECHO 5 and ANSWER 4 that is in a state; false: of that role none comes there.
func puts(t *testing.T, role, state int) (*session.Session, bool) {
	t.Helper()
	s := made(t, role, 5, 4)
	switch {
	case state == session.Down:
	case role == api.Acquirer && state == session.Open:
		s.Up()
	case role == api.Acquirer && state == session.On:
		s.Up()
		s.Asked("001")
	case role == api.Acquirer:
		return nil, false
	case state == session.Open:
		s.Up()
		s.Asked("002")
	case state == session.Signing:
		s.Up()
	default:
		s.Up()
		s.Answered("001", "00")
	}
	if state == session.Testing {
		for range 5 {
			s.Tick()
		}
	}
	for range gone {
		s.Tick()
	}
	if s.State() != state {
		t.Fatalf("a session of the role %d that is to be in the state %d is in %d", role, state, s.State())
	}
	return s, true
}

// everywhere does a thing with a session of each role in each state.
func everywhere(t *testing.T, do func(s *session.Session, role, state int)) {
	t.Helper()
	many := 0
	for _, role := range roles {
		for _, state := range states {
			if s, ok := puts(t, role, state); ok {
				do(s, role, state)
				many++
			}
		}
	}
	if many != 8 {
		t.Errorf("the test saw %d sessions", many)
	}
}

// goesOn holds that a session which puts has made, and which has been told something, goes on in that state from then on: with the ticks that had gone by, or from 0 on.
func goesOn(t *testing.T, promise string, s *session.Session, role, state int, anew bool) {
	t.Helper()
	left := map[bool]int{false: gone, true: 0}[anew]
	if s.State() != state {
		t.Fatalf("%s: of the role %d: the state is %d; must be %d", promise, role, s.State(), state)
	}
	switch {
	case role == api.Issuer && state == session.Signing:
		quietTicks(t, promise, s, 4-left-1)
		plays(t, promise, s, step{tick(), question("001"), session.Signing})
		quietTicks(t, promise, s, 3)
		plays(t, promise, s, step{tick(), question("001"), session.Signing})
	case role == api.Issuer && state == session.On:
		quietTicks(t, promise, s, 5-left-1)
		plays(t, promise, s, step{tick(), question("301"), session.Testing})
		goesOn(t, promise, s, role, session.Testing, true)
	case role == api.Issuer && state == session.Testing:
		for range 2 {
			quietTicks(t, promise, s, 4-left-1)
			plays(t, promise, s, step{tick(), question("301"), session.Testing})
			left = 0
		}
		quietTicks(t, promise, s, 3)
		plays(t, promise, s, step{tick(), lost(), session.Down})
		quietTicks(t, promise, s, 20)
	default:
		quietTicks(t, promise, s, 50)
	}
}

func oneOf[T any](r *rand.Rand, l ...T) T { return l[r.Intn(len(l))] }

// anyTold is any thing that a session can be told, ticks and what matters oftener.
func anyTold(r *rand.Rand) told {
	code := oneOf(r, oneOf(r, codes...), oneOf(r, codes...), oneOf(r, odd...))
	switch r.Intn(24) {
	case 0:
		return up()
	case 1:
		return oneOf(r, down(), tick())
	case 2, 3:
		return heard()
	case 4, 5:
		return asked(code)
	case 6:
		return answered(code, oneOf(r, "00", "00", "12", oneOf(r, odd...)))
	case 7, 8:
		return answered("001", "00")
	case 9:
		return answered("301", oneOf(r, "00", "", "91"))
	}
	return tick()
}
