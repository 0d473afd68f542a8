package shell

import (
	"testing"

	"turnstile/api"
	"turnstile/core"
	"turnstile/journal"
)

// What only a test from within sees: since both stacks do the same, a journal always agrees with itself.

func TestOtherStack(t *testing.T) {
	if otherThan(core.Tree) != core.Scan || otherThan(core.Scan) != core.Tree {
		t.Error("S4: a journal is not played by the other stack")
	}
	for _, stack := range []int{core.Tree, core.Scan} {
		if newPlayer(smallConfig(), stack).stack != stack {
			t.Error("S4: which stack a script is played with is not known")
		}
	}
}

// smallConfig has a bank to which nothing can be written, so that it is told so when it comes up.
func smallConfig() api.Config {
	return api.Config{
		Dialects: []api.Dialect{{Name: "d", MTIEnc: 1, MapEnc: 1}},
		Links:    []api.Link{{Name: "bank", Role: api.Issuer, Header: api.HeadTwo, Most: 999, ID: "8", Answer: 3}},
		Pending:  1, Timeout: 1, Late: 1, Queue: 1, Retry: 1, Tries: 1, Cards: 1, Numbers: 1,
	}
}

// entries are those of a link that comes up, and of a tick.
func entries() []journal.Entry {
	return []journal.Entry{
		{Event: api.Event{Kind: api.EvUp}, Outputs: []api.Output{{Kind: api.OutReject, Code: api.ErrMTI}}},
		{Event: api.Event{Kind: api.EvTick, N: 1}},
	}
}

func verdictOf(t *testing.T, stack int, lost bool, l ...journal.Entry) string {
	t.Helper()
	p := newPlayer(smallConfig(), stack)
	for _, e := range l {
		if p.journal.Append(e) != nil {
			t.Fatal("the test's entry does not fit")
		}
	}
	p.lost = lost
	return p.verdict(p.journal.Bytes())
}

func TestVerdicts(t *testing.T) {
	for _, stack := range []int{core.Tree, core.Scan} {
		holds := func(what, want string, lost bool, l ...journal.Entry) {
			t.Helper()
			if is := verdictOf(t, stack, lost, l...); is != want {
				t.Errorf("S4: of %s check tells %s; must be %s", what, is, want)
			}
		}
		e := entries()
		holds("nothing", "same", false)
		holds("what came", "same", false, e...)
		holds("what came, where something was left out", "lost", true, e...)
		holds("an event that is refused", "other", false, e[0], journal.Entry{Event: api.Event{Kind: api.EvUp}})
		holds("an event that is none", "other", false, journal.Entry{})
		holds("an output too much", "other", false, e[0], journal.Entry{Event: e[1].Event, Outputs: e[0].Outputs})
		holds("an output too few", "other", false, journal.Entry{Event: e[0].Event})
		holds("no events", "lost", true)
		for _, o := range []api.Output{{}, {Kind: api.OutClose, Code: api.ErrMTI}, {Kind: api.OutReject, Link: 1, Code: api.ErrMTI}, {Kind: api.OutReject, Code: api.ErrArg}, {Kind: api.OutReject, Code: api.ErrMTI, At: 1}, {Kind: api.OutReject, Code: api.ErrMTI, Bytes: "x"}} {
			holds("another output", "other", false, journal.Entry{Event: e[0].Event, Outputs: []api.Output{o}}, e[1])
			holds("another output, where something was left out", "lost", true, journal.Entry{Event: e[0].Event, Outputs: []api.Output{o}}, e[1])
		}
	}
}

// TestWrongJournals: bytes that are none, or end too early, do not agree.
func TestWrongJournals(t *testing.T) {
	c := smallConfig()
	j := journal.New()
	for _, e := range entries() {
		if j.Append(e) != nil {
			t.Fatal("the test's entry does not fit")
		}
	}
	b := j.Bytes()
	for _, stack := range []int{core.Tree, core.Scan} {
		if !agrees(c, stack, b) || !agrees(c, stack, "") {
			t.Error("S4: a journal does not agree with itself")
		}
		if agrees(c, stack, b[:len(b)-1]) || agrees(c, stack, b+"x") || agrees(c, stack, "x") {
			t.Error("S4: bytes that are no journal agree with themselves")
		}
	}
}
