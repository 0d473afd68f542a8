package session_test

import (
	"math"
	"slices"
	"strings"
	"testing"

	"turnstile/api"
	"turnstile/session"
)

func TestConstants(t *testing.T) {
	if !slices.Equal(states, []int{0, 1, 2, 3, 4}) || !slices.Equal(codes, []string{session.SignOn, session.SignOff, session.NewKey, session.Echo}) {
		t.Error("16: the states or the codes are other ones")
	}
}

func TestNew(t *testing.T) {
	wrongRoles := []int{math.MinInt, -1, 0, 3, 4, 256 + api.Issuer, math.MaxInt}
	echoes, answers := []int{0, 1, 50, 99999, 100000}, []int{1, 2, 50, 99999, 100000}
	wrongEchoes, wrongAnswers := []int{math.MinInt, -100000, -1, 100001, math.MaxInt}, []int{math.MinInt, -1, 0, 100001, math.MaxInt}
	for _, role := range slices.Concat(roles, wrongRoles) {
		for _, echo := range slices.Concat(echoes, wrongEchoes) {
			for _, answer := range slices.Concat(answers, wrongAnswers) {
				s, e := session.New(role, echo, answer)
				if slices.Contains(roles, role) && slices.Contains(echoes, echo) && slices.Contains(answers, answer) {
					if s == nil || e != api.OK || s.State() != session.Down || s.Ready() {
						t.Errorf("16.1: New(%d, %d, %d): no session that is down, or %d", role, echo, answer, e)
					}
				} else if s != nil || e != api.ErrArg {
					t.Errorf("16.1: New(%d, %d, %d) = %v, %d; must be nil, ErrArg", role, echo, answer, s != nil, e)
				}
			}
		}
	}
}

func TestReady(t *testing.T) {
	everywhere(t, func(s *session.Session, role, state int) {
		if s.State() != state || s.Ready() != (state == session.On || state == session.Testing) {
			t.Errorf("16.1: of the role %d, in the state %d, State() = %d, Ready() = %v", role, state, s.State(), s.Ready())
		}
		for range 5 {
			s.State()
			s.Ready()
		}
		goesOn(t, "16.1", s, role, state, false)
	})
}

func TestUp(t *testing.T) {
	everywhere(t, func(s *session.Session, role, state int) {
		if role == api.Acquirer {
			plays(t, "16.2", s, step{up(), nothing(), session.Open})
			goesOn(t, "16.2", s, role, session.Open, true)
			return
		}
		plays(t, "16.2", s, step{up(), question("001"), session.Signing})
		goesOn(t, "16.2", s, role, session.Signing, true)
		plays(t, "16.2", s, step{tick(), nothing(), session.Signing}, step{answered("001", "00"), nothing(), session.On})
		goesOn(t, "16.2", s, role, session.On, true)
	})
}

// TestDown: behind it nothing is said and nothing changes, till Up.
func TestDown(t *testing.T) {
	everywhere(t, func(s *session.Session, role, state int) {
		l := []told{down(), down(), heard(), tick()}
		for _, code := range slices.Concat(codes, odd) {
			l = append(l, asked(code), answered(code, "00"), tick(), answered(code, ""), heard())
		}
		for _, x := range l {
			plays(t, "16.2", s, step{x, nothing(), session.Down})
		}
		quietTicks(t, "16.2", s, 50)
		if role == api.Acquirer {
			plays(t, "16.2", s, step{up(), nothing(), session.Open}, step{asked("001"), answer("001", "00"), session.On})
		} else {
			plays(t, "16.2", s, step{up(), question("001"), session.Signing})
			goesOn(t, "16.2", s, role, session.Signing, true)
		}
	})
}

func TestHeard(t *testing.T) {
	for many := 1; many < 3; many++ {
		everywhere(t, func(s *session.Session, role, state int) {
			for range many {
				plays(t, "16.3", s, step{heard(), nothing(), state})
			}
			goesOn(t, "16.3", s, role, state, state == session.On)
		})
	}
}

// wantAsked is what is said to a question, and the state then, by the role and the state.
func wantAsked(role, state int, code string) (session.Say, int) {
	switch {
	case state == session.Down:
		return nothing(), state
	case code == "001" && role == api.Acquirer:
		return answer(code, "00"), session.On
	case code == "002":
		return answer(code, "00"), session.Open
	case code == "101" || code == "301":
		return answer(code, "00"), state
	}
	return answer(code, "12"), state
}

func TestAsked(t *testing.T) {
	for _, code := range slices.Concat(codes, odd, []string{strings.Repeat("001", 30000)}) {
		everywhere(t, func(s *session.Session, role, state int) {
			says, then := wantAsked(role, state, code)
			plays(t, "16.4", s, step{asked(code), says, then})
			goesOn(t, "16.4", s, role, then, then == session.On)
		})
	}
}

// TestAskedAny: of all texts of three digits, and of up to two bytes, four alone are granted.
func TestAskedAny(t *testing.T) {
	var all []string
	for n := range 1000 {
		all = append(all, string([]byte{byte('0' + n/100), byte('0' + n/10%10), byte('0' + n%10)}))
	}
	for n := range 65536 {
		all = append(all, string([]byte{byte(n)}), string([]byte{byte(n >> 8), byte(n)}))
	}
	for _, role := range roles {
		granted := 0
		for _, state := range states {
			s, ok := puts(t, role, state)
			if !ok {
				continue
			}
			for _, code := range all {
				was := s.State()
				says, then := wantAsked(role, was, code)
				plays(t, "16.4", s, step{asked(code), says, then})
				if says.Answer == "00" {
					granted++
				}
			}
		}
		if want := map[int]int{api.Acquirer: 2 * 4, api.Issuer: 4 * 3}[role]; granted != want {
			t.Errorf("16.4: of the role %d %d questions were granted; must be %d", role, granted, want)
		}
	}
}

func TestAnswered(t *testing.T) {
	for _, code := range slices.Concat(codes, odd) {
		for _, a := range slices.Concat([]string{"00", "12", "91", "000", "00 ", " 00", "O0", "00\x00"}, odd) {
			everywhere(t, func(s *session.Session, role, state int) {
				then := state
				if state == session.Signing && code == "001" && a == "00" || state == session.Testing && code == "301" {
					then = session.On
				}
				plays(t, "16.5", s, step{answered(code, a), nothing(), then})
				goesOn(t, "16.5", s, role, then, then == session.On)
			})
		}
	}
}

func TestTickSigning(t *testing.T) {
	for _, wait := range []int{1, 2, 3, 7, 50} {
		s := made(t, api.Issuer, 3, wait)
		plays(t, "16.6", s, step{up(), question("001"), session.Signing})
		for range 100 {
			quietTicks(t, "16.6", s, wait-1)
			plays(t, "16.6", s, step{tick(), question("001"), session.Signing})
		}
	}
}

// TestTickOn: with any echo and answer, from the silence to the loss.
func TestTickOn(t *testing.T) {
	for echo := 1; echo < 12; echo++ {
		for wait := 1; wait < 12; wait++ {
			s := made(t, api.Issuer, echo, wait)
			for range 2 {
				plays(t, "16.6", s, step{up(), question("001"), session.Signing}, step{answered("001", "00"), nothing(), session.On})
				for tries := range 3 {
					quietTicks(t, "16.6", s, echo-1)
					plays(t, "16.6", s, step{tick(), question("301"), session.Testing})
					for range tries {
						quietTicks(t, "16.6", s, wait-1)
						plays(t, "16.6", s, step{tick(), question("301"), session.Testing})
					}
					quietTicks(t, "16.6", s, wait-1)
					plays(t, "16.6", s, step{answered("301", "96"), nothing(), session.On})
				}
				quietTicks(t, "16.6", s, echo-1)
				for range 3 {
					plays(t, "16.6", s, step{tick(), question("301"), session.Testing})
					quietTicks(t, "16.6", s, wait-1)
				}
				plays(t, "16.6", s, step{tick(), lost(), session.Down})
				quietTicks(t, "16.6", s, 50)
			}
		}
	}
}

// TestTickLongest: the greatest numbers that there may be.
func TestTickLongest(t *testing.T) {
	s := made(t, api.Issuer, 100000, 100000)
	s.Up()
	quietTicks(t, "16.6", s, 99999)
	plays(t, "16.6", s, step{tick(), question("001"), session.Signing}, step{answered("001", "00"), nothing(), session.On})
	quietTicks(t, "16.6", s, 99999)
	for range 3 {
		plays(t, "16.6", s, step{tick(), question("301"), session.Testing})
		quietTicks(t, "16.6", s, 99999)
	}
	plays(t, "16.6", s, step{tick(), lost(), session.Down})
}

// TestTickElse: where nothing is counted nothing is ever said.
func TestTickElse(t *testing.T) {
	for _, echo := range []int{0, 1, 3} {
		s := made(t, api.Acquirer, echo, 1)
		quietTicks(t, "16.6", s, 1000)
		plays(t, "16.6", s, step{up(), nothing(), session.Open})
		quietTicks(t, "16.6", s, 1000)
		plays(t, "16.6", s, step{asked("001"), answer("001", "00"), session.On})
		quietTicks(t, "16.6", s, 1000)
		s = made(t, api.Issuer, echo, 1)
		quietTicks(t, "16.6", s, 1000)
		plays(t, "16.6", s, step{up(), question("001"), session.Signing}, step{asked("002"), answer("002", "00"), session.Open})
		quietTicks(t, "16.6", s, 1000)
	}
	s := made(t, api.Issuer, 0, 1)
	plays(t, "16.6", s, step{up(), question("001"), session.Signing}, step{answered("001", "00"), nothing(), session.On})
	quietTicks(t, "16.6", s, 200000)
}
