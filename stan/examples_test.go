package stan_test

import (
	"testing"

	"turnstile/api"
	"turnstile/clock"
	"turnstile/stan"
)

func TestExampleNumbers(t *testing.T) {
	n := made(t, 3)
	takes(t, n, 1, 2)
	frees(t, n, api.OK, 1)
	takes(t, n, 3, 1)
	spent(t, n)
	frees(t, n, api.OK, 2)
	takes(t, n, 2)
	frees(t, n, api.OK, 2)
	frees(t, n, api.ErrFree, 2)
	out(t, n, 3, 1, 3)
}

func TestExampleFields(t *testing.T) {
	if s, e := stan.Field(42); s != "000042" || e != api.OK {
		t.Errorf("18.3: Field(42) = %q, %d", s, e)
	}
	moment, _ := clock.Of(api.Date{Year: 2026, Month: 11, Day: 15, Hour: 13, Minute: 5})
	if s, e := stan.Reference(moment, 42); s != "631913000042" || e != api.OK {
		t.Errorf("18.4: Reference(%d, 42) = %q, %d", moment, s, e)
	}
	noon, _ := clock.Of(api.Date{Year: 2026, Month: 11, Day: 15, Hour: 12}) // that of DOC.md's third example
	if s, e := stan.Reference(noon, 2); s != "631912000002" || e != api.OK {
		t.Errorf("18.4: Reference(%d, 2) = %q, %d", noon, s, e)
	}
}

func TestExampleEcho(t *testing.T) {
	e := echoOf(t, 11, 37)
	saves(t, e, 5, of("0200", field(11, "000007")), api.OK)
	restores(t, e, 5, of("0210", field(11, "000005"), field(37, "x")), of("0210", field(11, "000007")), true)
}
