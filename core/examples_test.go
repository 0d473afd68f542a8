package core_test

import (
	"testing"

	"turnstile/api"
	"turnstile/core"
)

// The document's examples, with either stack.

const (
	docOpen = `
		up shop
		up bank
		> bank 0800 7=1115120000 11=000001 70=001
		in bank 0810 11=000001 39=00 70=001
		= bank up ready held 0 queued 0 dead 0 keys 0
		in shop 0800 7=1115115900 11=000009 70=001
		> shop 0810 7=1115115900 11=000009 39=00 70=001
		= shop up ready held 0 queued 0 dead 0 keys 0`
	docAsk = `
		in shop 0200 2=4111111111111111 3=000000 4=000000001250 7=1115115958 11=000010
		> bank 0200 2=4111111111111111 3=000000 4=000000001250 7=1115120000 11=000002 32=7 37=631912000002`
	docBack = `2=4111111111111111 3=000000 4=000000001250 7=1115120005 11=000003 32=7 37=631912000002 90=020000000211151200000000000000700000000000`
)

func TestExamplesOneToFour(t *testing.T) {
	played(t, doc(), docOpen, docAsk, `
		in shop 0200 2=4111111111111111 3=000000 4=000000001250 7=1115115958 11=000010
		! shop ErrTwice 0
		= waits shop>bank:2
		in bank 0210 4=000000001250 7=1115120001 11=000002 38=A1B2C3 39=00
		> shop 0210 4=000000001250 7=1115115958 11=000010 38=A1B2C3 39=00
		in bank 0210 4=000000001250 7=1115120001 11=000002 38=A1B2C3 39=00
		! bank ErrNone 0
		= waits
		= all now 0 pending 0 late 0
		= shop counts 1 1 0 0 0 0 1 0 0 0 1250 0`)
}

func TestExampleFive(t *testing.T) {
	played(t, doc(), docOpen, docAsk, `
		tick 4
		tick 1
		> shop 0210 2=4111111111111111 3=000000 4=000000001250 7=1115115958 11=000010 39=68
		> bank 0420 `+docBack+`
		= all now 5 pending 0 late 1
		= bank queue 0420:3
		in bank 0210 11=000002 39=00
		= all now 5 pending 0 late 0
		tick 2
		tick 1
		> bank 0421 `+docBack+`
		in bank 0430 11=000003 39=00
		= bank queue
		in bank 0430 11=000003 39=00
		! bank ErrNone 0
		= shop counts 1 0 1 0 0 0 0 0 0 0 0 0`)
}

func TestExamplesSixAndSeven(t *testing.T) {
	p := played(t, doc(), `
		up shop
		in shop 0800 7=1115115900 11=000009 70=001
		> shop 0810 7=1115115900 11=000009 39=00 70=001
		in shop 0200 2=4111111111111111 3=000000 4=000000001250 7=1115115958 11=000010
		> shop 0210 2=4111111111111111 3=000000 4=000000001250 7=1115115958 11=000010 38=000001 39=00
		= bank queue 0220:1
		in shop 0200 2=4111111111111111 3=000000 4=000000005001 7=1115115958 11=000011
		> shop 0210 2=4111111111111111 3=000000 4=000000005001 7=1115115958 11=000011 39=91
		in shop 0200 2=4111111111111112 3=000000 4=000000001250 7=1115115958 11=000012
		> shop 0210 2=4111111111111112 3=000000 4=000000001250 7=1115115958 11=000012 39=14
		in shop 0200 2=5555555555554444 3=000000 4=000000001250 7=1115115958 11=000012
		> shop 0210 2=5555555555554444 3=000000 4=000000001250 7=1115115958 11=000012 39=15
		= shop counts 4 1 3 0 0 0 1 0 0 0 1250 0
		= bank queue 0220:1`)
	p.queued("bank", 0, "0220 2=4111111111111111 3=000000 4=000000001250 7=1115120000 11=000001 32=7 37=631912000001 38=000001 39=00")
}

func TestExamplesEightAndNine(t *testing.T) {
	played(t, doc(), docOpen, `
		in shop 0210 11=000003 39=00
		! shop ErrKind 0
		raw shop 00040900
		! shop DefMTI 0
		raw shop 00380200722000000000000016411111111111111
		raw shop 1
		! shop DefShort 38
		raw shop 00x0
		x shop ErrHeader
		= shop down off held 0 queued 0 dead 0 keys 0
		raw shop 0
		?
		up shop
		in shop 0200 2=4111111111111111 3=000000 4=000000001250 7=1115115958 11=000010
		! shop ErrOff 0`)
}

func TestExampleTen(t *testing.T) {
	played(t, doc(), docOpen, `
		tick 49
		tick 1
		> bank 0800 7=1115120050 11=000002 70=301
		tick 2
		tick 1
		> bank 0800 7=1115120053 11=000003 70=301
		= bank up ready held 0 queued 0 dead 0 keys 0
		tick 3
		> bank 0800 7=1115120056 11=000004 70=301
		tick 2
		= bank up ready held 0 queued 0 dead 0 keys 0
		tick 1
		x bank ErrState
		= bank down off held 0 queued 0 dead 0 keys 0
		= all now 59 pending 0 late 0`)
}

// TestChapterOne and the others are chapter 24's own examples.
func TestChapterOne(t *testing.T) {
	if s, e, n := core.New(doc(), 3); s != nil || e != api.ErrArg || n != 0 {
		t.Errorf("C1: New with the stack 3 is %s, %d", nameOf(e), n)
	}
	c := doc()
	c.Tries = 0
	for _, stack := range []int{core.Tree, core.Scan} {
		if s, e, n := core.New(c, stack); s != nil || e != api.ErrConfig || n != 7 {
			t.Errorf("C1: New with Tries 0 is %s, %d", nameOf(e), n)
		}
	}
}

func TestChapterTwo(t *testing.T) {
	p := newPair(t, doc())
	for _, e := range []api.Event{{Kind: 5}, {Kind: api.EvTick}, {Kind: api.EvTick, N: 100001}, {Kind: api.EvUp, Link: 2}, {Kind: api.EvDown}, {Kind: api.EvBytes, Bytes: "0"}} {
		if l, code := p.step(e); code != api.ErrEvent || l != nil {
			t.Errorf("C2: Step(%+v) is %s, %v", e, nameOf(code), l)
		}
	}
}

func TestChapterThree(t *testing.T) {
	for _, stack := range []int{core.Tree, core.Scan} {
		x := newPair(t, doc())
		s, _, _ := core.New(doc(), stack)
		l, e, n := s.Run(
			x.event([]string{"up", "shop"}),
			x.event([]string{"up", "bank"}),
			x.event([]string{"in", "bank", "0810", "11=000001", "39=00", "70=001"}),
			x.event([]string{"in", "shop", "0800", "7=1115115900", "11=000009", "70=001"}),
			x.event([]string{"up", "shop"}),
			x.event([]string{"tick", "1"}),
		)
		if len(l) != 2 || l[0].Link != 1 || l[1].Link != 0 || e != api.ErrEvent || n != 4 || s.View().Now != 0 {
			t.Errorf("C3: Run is %+v, %s, %d; Now is %d", l, nameOf(e), n, s.View().Now)
		}
	}
}

func TestChapterFour(t *testing.T) {
	played(t, doc(), docOpen, docAsk, `
		tick 8
		> shop 0210 2=4111111111111111 3=000000 4=000000001250 7=1115115958 11=000010 39=68
		> bank 0420 `+docBack+`
		> bank 0421 `+docBack+`
		tick 1
		= all now 9 pending 0 late 1
		= shop counts 1 0 1 0 0 0 0 0 0 0 0 0
		= bank queue 0420:3`)
}
