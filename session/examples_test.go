package session_test

import (
	"testing"

	"turnstile/api"
	"turnstile/session"
)

func TestExamples(t *testing.T) {
	plays(t, "16, example 1", made(t, api.Acquirer, 3, 2),
		step{up(), nothing(), session.Open},
		step{asked("301"), answer("301", "00"), session.Open},
		step{asked("001"), answer("001", "00"), session.On},
		step{asked("002"), answer("002", "00"), session.Open},
		step{asked("9"), answer("9", "12"), session.Open},
		step{tick(), nothing(), session.Open},
		step{down(), nothing(), session.Down},
		step{asked("001"), nothing(), session.Down})
	plays(t, "16, example 2", made(t, api.Issuer, 3, 2),
		step{up(), question("001"), session.Signing},
		step{tick(), nothing(), session.Signing},
		step{tick(), question("001"), session.Signing},
		step{answered("001", "91"), nothing(), session.Signing},
		step{answered("001", "00"), nothing(), session.On},
		step{tick(), nothing(), session.On},
		step{tick(), nothing(), session.On},
		step{heard(), nothing(), session.On},
		step{tick(), nothing(), session.On},
		step{tick(), nothing(), session.On},
		step{tick(), question("301"), session.Testing},
		step{tick(), nothing(), session.Testing},
		step{tick(), question("301"), session.Testing},
		step{tick(), nothing(), session.Testing},
		step{tick(), question("301"), session.Testing},
		step{tick(), nothing(), session.Testing},
		step{tick(), lost(), session.Down})
	s := made(t, api.Issuer, 3, 2)
	plays(t, "16, example 3", s,
		step{up(), question("001"), session.Signing},
		step{asked("001"), answer("001", "12"), session.Signing},
		step{asked("002"), answer("002", "00"), session.Open})
	quietTicks(t, "16, example 3", s, 1000)
	plays(t, "16, example 3", s, step{up(), question("001"), session.Signing})
}

// TestExampleOfTheWhole: the link bank, that says nothing for 50 ticks.
func TestExampleOfTheWhole(t *testing.T) {
	s := made(t, api.Issuer, 50, 3)
	plays(t, "16", s, step{up(), question("001"), session.Signing}, step{answered("001", "00"), nothing(), session.On})
	quietTicks(t, "16", s, 49)
	for range 3 {
		plays(t, "16", s, step{tick(), question("301"), session.Testing})
		quietTicks(t, "16", s, 2)
	}
	plays(t, "16", s, step{tick(), lost(), session.Down})
}
