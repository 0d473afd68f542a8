package session_test

import (
	"math/rand"
	"testing"

	"turnstile/api"
	"turnstile/session"
)

// alphabet is one of each kind of thing that a session can be told.
func alphabet() []told {
	return []told{tick(), up(), down(), heard(), asked("001"), asked("002"), asked("301"), asked("9"), answered("001", "00"), answered("001", "91"), answered("301", "")}
}

// TestAllShort: every list of five things, behind Up and behind a sign-on, held against the second reading.
func TestAllShort(t *testing.T) {
	all := alphabet()
	total := 1
	for range 5 {
		total *= len(all)
	}
	for _, role := range roles {
		for _, ahead := range [][]told{nil, {up(), asked("001"), answered("001", "00"), tick()}} {
			for n := range total {
				b := newBoth(t, role, 2, 1+n%2)
				l := ahead
				for k := n; len(l) < len(ahead)+5; k /= len(all) {
					l = append(l[:len(l):len(l)], all[k%len(all)])
				}
				b.run(t, l)
			}
		}
	}
}

// TestAnything: long lists, held against the second reading, in which every thing is told in every state.
func TestAnything(t *testing.T) {
	r := rand.New(rand.NewSource(1601))
	type place struct {
		role, state int
		call, code  string
	}
	seen, losses := map[place]int{}, 0
	for range 4000 {
		b := newBoth(t, oneOf(r, roles...), oneOf(r, 0, 1, 2, 5, 20), oneOf(r, 1, 2, 3, 7))
		for range 300 {
			x := anyTold(r)
			seen[place{b.m.role, b.m.state, x.call, x.code}]++
			was := b.m.state
			b.run(t, []told{x})
			if x == tick() && was == session.Testing && b.m.state == session.Down {
				losses++
			}
		}
	}
	for _, role := range roles {
		for _, state := range states {
			if role == api.Acquirer && (state == session.Signing || state == session.Testing) {
				continue
			}
			for _, x := range alphabet() {
				if n := seen[place{role, state, x.call, x.code}]; n < 50 {
					t.Errorf("the test told %v only %d times, of the role %d in the state %d", x, n, role, state)
				}
			}
		}
	}
	if losses < 500 {
		t.Errorf("the test saw only %d losses", losses)
	}
}

func TestAcquirersAskNothing(t *testing.T) {
	r := rand.New(rand.NewSource(1602))
	for range 500 {
		s := made(t, api.Acquirer, oneOf(r, 0, 1, 3), oneOf(r, 1, 2))
		for range 300 {
			x := anyTold(r)
			says := tell(s, x)
			if says.Lost || says.Answer == "" && says.Code != "" || s.State() == session.Signing || s.State() == session.Testing {
				t.Fatalf("16.7: an acquirer's session says %+v to %v, and its state is %d", says, x, s.State())
			}
		}
	}
}

// TestLostJustThen: behind the last thing that came, whatever that was, and whatever was ahead of it.
func TestLostJustThen(t *testing.T) {
	last := []told{heard(), asked("001"), asked("101"), asked("301"), asked("9"), asked(""), answered("001", "00"), answered("001", "91"), answered("301", ""), answered("", "")}
	for echo := range 8 {
		for wait := 1; wait < 8; wait++ {
			for _, x := range last {
				for ahead := range max(echo, 1) {
					s := made(t, api.Issuer, echo, wait)
					s.Up()
					s.Answered("001", "00")
					for range ahead {
						s.Tick()
					}
					tell(s, x)
					if n, want := ticksTillLost(s), echo+3*wait; echo > 0 && n != want || echo == 0 && n >= 0 {
						t.Fatalf("16.7: ECHO %d, ANSWER %d: behind %d ticks and %v it is lost at the tick %d", echo, wait, ahead, x, n)
					}
				}
			}
		}
	}
}

// ticksTillLost is at which tick a session is lost; -1: at none of very many.
func ticksTillLost(s *session.Session) int {
	for n := 1; n < 1000; n++ {
		if s.Tick().Lost {
			return n
		}
	}
	return -1
}

// TestNotLostEarlier: from the first question on, whatever comes between.
func TestNotLostEarlier(t *testing.T) {
	r, losses := rand.New(rand.NewSource(1603)), 0
	for range 3000 {
		echo, wait := 1+r.Intn(4), 1+r.Intn(5)
		s := made(t, api.Issuer, echo, wait)
		since := 0
		for range 200 {
			was := s.State()
			x := oneOf(r, tick(), tick(), tick(), anyTold(r))
			says := tell(s, x)
			if x == tick() {
				since++
			}
			if says == question("301") && was != session.Testing {
				since = 0
			}
			if says.Lost {
				losses++
				if was != session.Testing || since < 3*wait {
					t.Fatalf("16.7: ANSWER %d: lost %d ticks behind the first question, in the state %d", wait, since, was)
				}
			}
		}
	}
	if losses < 500 {
		t.Errorf("the test saw only %d losses", losses)
	}
}

// TestReadyBehindSignOn: just then a session is ready.
func TestReadyBehindSignOn(t *testing.T) {
	r, ready := rand.New(rand.NewSource(1604)), 0
	for range 2000 {
		role := oneOf(r, roles...)
		s := made(t, role, r.Intn(4), 1+r.Intn(4))
		asks, signed := false, false
		for range 200 {
			x := anyTold(r)
			says := tell(s, x)
			switch {
			case x == up():
				asks, signed = says == question("001"), false
			case x == down(), says.Lost, x == asked("002"):
				asks, signed = false, false
			case says == answer("001", "00"), asks && x == answered("001", "00"):
				signed = true
			}
			if s.Ready() != signed {
				t.Fatalf("16.7: of the role %d: behind %v Ready() = %v", role, x, s.Ready())
			}
			if signed {
				ready++
			}
		}
	}
	if ready < 10000 {
		t.Errorf("the test saw only %d that were ready", ready)
	}
}

// TestNothingAheadOfUp: what came ahead of it does not show behind it.
func TestNothingAheadOfUp(t *testing.T) {
	r := rand.New(rand.NewSource(1605))
	for range 4000 {
		role, echo, wait := oneOf(r, roles...), r.Intn(6), 1+r.Intn(5)
		old, young := made(t, role, echo, wait), made(t, role, echo, wait)
		for range r.Intn(100) {
			tell(old, anyTold(r))
		}
		for i := range 60 {
			x := anyTold(r)
			if i == 0 {
				x = up()
			}
			a, b := tell(old, x), tell(young, x)
			if a != b || old.State() != young.State() || old.Ready() != young.Ready() {
				t.Fatalf("16.7: of the role %d, ECHO %d, ANSWER %d: %v says %+v, of a new one %+v; the states are %d, %d", role, echo, wait, x, a, b, old.State(), young.State())
			}
		}
	}
}
