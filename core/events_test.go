package core_test

import (
	"fmt"
	"testing"

	"turnstile/api"
)

// How the links of config come up and sign on. A question takes a number, and frees it.
const (
	openShop = `
		up shop
		in shop 0800 11=000009 70=001
		> shop 0810 11=000009 39=00 70=001`
	openTill = `
		up till
		in till 0800 11=000009 70=001
		> till 0810 11=000009 39=00 70=001`
	openBank = `
		up bank
		> bank 0800 7=1115120000 11=000001 70=001
		in bank 0810 39=00 70=001`
	openVault = `
		up vault
		> vault 1800 7=1115120000 11=000001 70=001
		in vault 1810 39=00 70=001`
	vaultAfterBank = `
		up vault
		> vault 1800 7=1115120000 11=000002 70=001
		in vault 1810 39=00 70=001`
)

// Requests of shop: the first, behind openShop and openBank; one that stand-in approves.
const (
	asks = `
		in shop 0200 2=4111111111111111 4=000000001250 7=1115115958 11=000010
		> bank 0200 2=4111111111111111 4=000000001250 7=1115120000 11=000002 32=7 37=631912000002`
	standsIn = `
		in shop 0200 2=4111111111111111 4=000000001250 7=1115115958 11=000010
		> shop 0210 2=4111111111111111 4=000000001250 7=1115115958 11=000010 38=000001 39=00`
)

// TestEventsThatMayNotBe: of any numbers; nothing has changed then.
func TestEventsThatMayNotBe(t *testing.T) {
	p := played(t, config(), openShop, `
		raw shop 00`)
	v := fmt.Sprint(p.s[0].View())
	refused := func(e api.Event) {
		t.Helper()
		if l, code := p.step(e); code != api.ErrEvent || l != nil {
			t.Errorf("C2: Step(%+v) is %s, %v; must be ErrEvent", e, nameOf(code), l)
		}
	}
	for _, n := range edges {
		if n < 1 || n > 4 {
			refused(api.Event{Kind: n, Link: 0, N: 1})
			refused(api.Event{Kind: n, Link: 1, N: 1, Bytes: "00"})
		}
		if n < 1 || n > 100000 {
			refused(api.Event{Kind: api.EvTick, N: n})
		}
		if n < 0 || n > 3 {
			refused(api.Event{Kind: api.EvUp, Link: n, N: 1})
			refused(api.Event{Kind: api.EvDown, Link: n, N: 1})
			refused(api.Event{Kind: api.EvBytes, Link: n, N: 1})
		}
		if n > 0 && n < 4 {
			refused(api.Event{Kind: api.EvDown, Link: n})
			refused(api.Event{Kind: api.EvBytes, Link: n, Bytes: "0000"})
		}
	}
	refused(api.Event{Kind: api.EvUp, Link: 0})
	if now := fmt.Sprint(p.s[0].View()); now != v {
		t.Errorf("C2: an event that was refused changed %s to %s", v, now)
	}
	p.alike()
}

// TestWhatIsNotAsked: of ticks the link, of other events N; of all but bytes the bytes.
func TestWhatIsNotAsked(t *testing.T) {
	p := newPair(t, config())
	for _, n := range edges {
		for _, e := range []api.Event{{Kind: api.EvUp, N: n, Bytes: "x"}, {Kind: api.EvBytes, N: n}, {Kind: api.EvDown, N: n, Bytes: "x"}, {Kind: api.EvTick, Link: n, N: 1, Bytes: "x"}} {
			if l, code := p.step(e); code != api.OK || len(l) != 0 {
				t.Errorf("C2: Step(%+v) is %s, %v", e, nameOf(code), l)
			}
		}
	}
}

// TestUpAndDown: what a link forgets, and what it does not.
func TestUpAndDown(t *testing.T) {
	played(t, config(), openShop, openBank, asks, `
		raw shop 0099000
		= shop up ready held 7 queued 0 dead 0 keys 0
		down shop
		= shop down off held 0 queued 0 dead 0 keys 0
		= waits shop>bank:2
		down shop
		?
		raw shop 0
		?
		up shop
		= shop up off held 0 queued 0 dead 0 keys 0
		up shop
		?
		in shop 0800 70=001
		> shop 0810 39=00 70=001
		= shop up ready held 0 queued 0 dead 0 keys 0
		raw bank $000100
		! bank DefShort 1
		raw bank $0009
		down bank
		= bank down off held 0 queued 0 dead 0 keys 0
		up bank
		> bank 0800 7=1115120000 11=000003 70=001
		= bank up off held 0 queued 0 dead 0 keys 0
		in bank 0210 11=000002 39=00
		! bank ErrOff 0
		= waits shop>bank:2`)
}

// TestBreak: an advice that is under way when its link goes down is sent again as soon as that is ready, and not ahead.
func TestBreak(t *testing.T) {
	down := []string{`
		down bank`, `
		raw bank $FFFF
		x bank ErrLong`}
	for _, s := range down {
		played(t, config(), openShop, openBank, `
			in shop 0220 2=4111111111111111 4=000000001250 7=1115115958 11=000010
			> bank 0220 2=4111111111111111 4=000000001250 7=1115120000 11=000002 32=7 37=631912000002
			> shop 0230 2=4111111111111111 4=000000001250 7=1115115958 11=000010 39=00
			tick 1
			in bank 0800 70=301
			> bank 0810 39=00 70=301
			= bank up ready held 0 queued 1 dead 0 keys 0`, s, `
			= bank down off held 0 queued 1 dead 0 keys 0
			tick 1
			up bank
			> bank 0800 7=1115120002 11=000003 70=001
			in bank 0230 11=000002 39=00
			! bank ErrOff 0
			in bank 0810 39=00 70=001
			> bank 0221 2=4111111111111111 4=000000001250 7=1115120000 11=000002 32=7 37=631912000002
			in bank 0230 11=000002 39=00
			= bank up ready held 0 queued 0 dead 0 keys 0`)
	}
}

// TestPieces: messages come in any pieces, several at one time, idle signs between them.
func TestPieces(t *testing.T) {
	p := played(t, config(), openShop)
	one := p.event([]string{"in", "shop", "0800", "11=000001", "70=301"}).Bytes
	two := p.event([]string{"in", "shop", "0200", "11=000002"}).Bytes
	p.plays(`
		raw shop ` + one + `0000` + two + one[:9] + `
		> shop 0810 11=000001 39=00 70=301
		> shop 0210 11=000002 39=14
		= shop up ready held 9 queued 0 dead 0 keys 0
		raw shop ` + one[9:len(one)-1] + `
		raw shop ` + one[len(one)-1:] + `
		> shop 0810 11=000001 39=00 70=301
		= shop up ready held 0 queued 0 dead 0 keys 0`)
	for range 2 {
		for i := range one {
			if i < len(one)-1 {
				p.plays("raw shop " + one[i:i+1])
			} else {
				p.plays("raw shop " + one[i:] + "\n> shop 0810 11=000001 39=00 70=301")
			}
		}
	}
	if l, code := p.step(api.Event{Kind: api.EvBytes}); code != api.OK || len(l) != 0 {
		t.Errorf("C2: no bytes: %s, %v", nameOf(code), l)
	}
}

// TestWrongHeaders: what came ahead of one is taken, and what comes behind it is not; the link is given up.
func TestWrongHeaders(t *testing.T) {
	p := played(t, config(), openShop)
	one := p.event([]string{"in", "shop", "0800", "11=000001", "70=301"}).Bytes
	p.plays(`
		raw shop ` + one + `0004x000` + one + `10000` + one + `
		> shop 0810 11=000001 39=00 70=301
		! shop DefMTI 0
		> shop 0810 11=000001 39=00 70=301
		x shop ErrLong
		= shop down off held 0 queued 0 dead 0 keys 0
		raw shop 0
		?
		up shop
		= shop up off held 0 queued 0 dead 0 keys 0
		raw shop ` + one + `
		> shop 0810 11=000001 39=00 70=301
		raw shop 12-4
		x shop ErrHeader`)
	played(t, config(), openVault, `
		raw vault $0001
		x vault ErrHeader
		= vault down off held 0 queued 0 dead 0 keys 0
		up vault
		> vault 1800 7=1115120000 11=000002 70=001
		raw vault $0387
		x vault ErrLong`)
}

// TestTickOrder: at one tick first the requests whose time is over, then the links' sessions, then the queues; each by its order.
func TestTickOrder(t *testing.T) {
	c := config()
	c.Timeout, c.Retry, c.Links[1].Answer, c.Links[3].Answer, c.Links[1].Echo, c.Links[3].Echo = 3, 3, 1, 1, 3, 3
	played(t, c, openShop, openVault, `
		up bank
		> bank 0800 7=1115120000 11=000002 70=001
		in bank 0810 39=00 70=001
		in shop 0220 2=5555555555554444 4=000000001250 7=1115115958 11=000010
		> vault 1220 2=5555555555554444 4=000000001250 7=1115120000 11=000003 32=7 37=631912000003
		> shop 0230 2=5555555555554444 4=000000001250 7=1115115958 11=000010 39=00
		in shop 0200 2=4111111111111111 4=000000001250 7=1115115958 11=000011
		> bank 0200 2=4111111111111111 4=000000001250 7=1115120000 11=000004 32=7 37=631912000004
		in shop 0200 2=5555555555554444 4=000000001250 7=1115115958 11=000012
		> vault 1200 2=5555555555554444 4=000000001250 7=1115120000 11=000005 32=7 37=631912000005
		tick 2
		tick 1
		> shop 0210 2=4111111111111111 4=000000001250 7=1115115958 11=000011 39=68
		> bank 0420 2=4111111111111111 4=000000001250 7=1115120003 11=000006 32=7 37=631912000004 90=020000000411151200000000000000700000000000
		> shop 0210 2=5555555555554444 4=000000001250 7=1115115958 11=000012 39=68
		> bank 0800 7=1115120003 11=000008 70=301
		> vault 1800 7=1115120003 11=000009 70=301
		> vault 1221 2=5555555555554444 4=000000001250 7=1115120000 11=000003 32=7 37=631912000003
		= vault queue 0220:3 0420:7
		tick 1
		> bank 0800 7=1115120004 11=000010 70=301
		> vault 1800 7=1115120004 11=000011 70=301
		tick 1
		> bank 0800 7=1115120005 11=000012 70=301
		> vault 1800 7=1115120005 11=000013 70=301
		> bank 0421 2=4111111111111111 4=000000001250 7=1115120003 11=000006 32=7 37=631912000004 90=020000000411151200000000000000700000000000
		tick 1
		x bank ErrState
		x vault ErrState
		= all now 6 pending 0 late 2
		= vault down off held 0 queued 2 dead 0 keys 0`)
}

// TestManyTicks: several at one time are those ticks one by one.
func TestManyTicks(t *testing.T) {
	c := doc()
	one, many := newPair(t, c), newPair(t, c)
	for _, p := range []*pair{one, many} {
		p.plays(docOpen + docAsk)
	}
	many.plays("raw bank $00")
	all := many.steps(api.Event{Kind: api.EvTick, N: 99})
	one.plays("raw bank $00")
	var each []string
	for range 99 {
		each = append(each, one.steps(api.Event{Kind: api.EvTick, N: 1})...)
	}
	if fmt.Sprint(all) != fmt.Sprint(each) || fmt.Sprint(one.s[0].View()) != fmt.Sprint(many.s[0].View()) {
		t.Errorf("C2: at one time come %q; one by one %q", all, each)
	}
	many.plays(`
		= all now 99 pending 0 late 0
		= bank down off held 0 queued 0 dead 1 keys 0`)
}

// TestGoneNumbers: that of a request that is remembered no more is free again, behind those that are late at the same tick.
func TestGoneNumbers(t *testing.T) {
	c := config()
	c.Timeout, c.Late, c.Numbers, c.Queue = 2, 2, 2, 1
	played(t, c, openShop, openBank, `
		in shop 0200 2=4111111111111111 4=000000001250 11=000010
		> bank 0200 2=4111111111111111 4=000000001250 7=1115120000 11=000002 32=7 37=631912000002
		tick 2
		> shop 0210 2=4111111111111111 4=000000001250 11=000010 39=68
		> bank 0420 2=4111111111111111 4=000000001250 7=1115120002 11=000001 32=7 37=631912000002 90=020000000211151200000000000000700000000000
		in bank 0430 11=000001
		in shop 0200 2=4111111111111111 4=000000001250 11=000011
		> bank 0200 2=4111111111111111 4=000000001250 7=1115120002 11=000001 32=7 37=631912000001
		in shop 0200 2=4111111111111111 4=000000001250 11=000012
		> shop 0210 2=4111111111111111 4=000000001250 11=000012 39=96
		= all now 2 pending 1 late 1
		tick 1
		= all now 3 pending 1 late 1
		tick 1
		> shop 0210 2=4111111111111111 4=000000001250 11=000011 39=68
		! bank ErrSpent 0
		= all now 4 pending 0 late 1
		in shop 0200 2=4111111111111111 4=000000001250 11=000013
		> bank 0200 2=4111111111111111 4=000000001250 7=1115120004 11=000002 32=7 37=631912000002`)
}

// TestPushedOut: of one that is remembered no longer, since too many are, the number is free too.
func TestPushedOut(t *testing.T) {
	c := config()
	c.Timeout, c.Late, c.Pending, c.Numbers = 1, 100, 1, 3
	played(t, c, openShop, openBank, `
		in shop 0200 2=4111111111111111 4=000000001250 11=000010
		> bank 0200 2=4111111111111111 4=000000001250 7=1115120000 11=000002 32=7 37=631912000002
		down bank
		tick 1
		> shop 0210 2=4111111111111111 4=000000001250 11=000010 39=68
		= bank queue 0420:3
		up bank
		> bank 0800 7=1115120001 11=000001 70=001
		in bank 0810 39=00 70=001
		> bank 0420 2=4111111111111111 4=000000001250 7=1115120001 11=000003 32=7 37=631912000002 90=020000000211151200000000000000700000000000
		in shop 0200 2=4111111111111111 4=000000001250 11=000011
		> bank 0200 2=4111111111111111 4=000000001250 7=1115120001 11=000001 32=7 37=631912000001
		tick 1
		> shop 0210 2=4111111111111111 4=000000001250 11=000011 39=68
		! bank ErrSpent 0
		= all now 2 pending 0 late 1
		in bank 0210 11=000002 39=00
		! bank ErrNone 0
		in shop 0200 2=4111111111111111 4=000000001250 11=000012
		> bank 0200 2=4111111111111111 4=000000001250 7=1115120002 11=000002 32=7 37=631912000002`)
}

// TestLastMoment: the switch's clock stays there; its ticks go on.
func TestLastMoment(t *testing.T) {
	c := config()
	c.Start = api.MaxMoment - 1
	played(t, c, openShop, `
		up bank
		> bank 0800 7=1231235958 11=000001 70=001
		tick 1
		down bank
		up bank
		> bank 0800 7=1231235959 11=000002 70=001
		tick 50
		down bank
		up bank
		> bank 0800 7=1231235959 11=000003 70=001
		in bank 0810 39=00 70=001
		in shop 0200 2=4111111111111111 4=000000001250 14=9912
		> bank 0200 2=4111111111111111 4=000000001250 7=1231235959 11=000004 14=9912 32=7 37=936523000004
		= all now 51 pending 1 late 0
		tick 5
		> shop 0210 2=4111111111111111 4=000000001250 39=68
		> bank 0420 2=4111111111111111 4=000000001250 7=1231235959 11=000005 32=7 37=936523000004 90=020000000412312359590000000000700000000000
		= all now 56 pending 0 late 1`)
}

// TestRun: up to the event that is refused; what came ahead is told and stays.
func TestRun(t *testing.T) {
	p := newPair(t, config())
	up, wrong, tick := api.Event{Kind: api.EvUp, Link: 1}, api.Event{Kind: api.EvUp, Link: 4}, api.Event{Kind: api.EvTick, N: 1}
	for _, s := range p.s {
		for i, x := range []struct {
			l       []api.Event
			outputs int
			e       api.Errno
			at      int
		}{
			{nil, 0, api.OK, 0},
			{[]api.Event{wrong}, 0, api.ErrEvent, 0},
			{[]api.Event{wrong, tick}, 0, api.ErrEvent, 0},
			{[]api.Event{tick, up, tick, wrong, tick}, 1, api.ErrEvent, 3},
			{[]api.Event{up}, 0, api.ErrEvent, 0},
			{[]api.Event{tick, {Kind: api.EvDown, Link: 1}, up, tick, {Kind: api.EvDown, Link: 1}, up}, 2, api.OK, 6},
		} {
			l, e, at := s.Run(x.l...)
			if len(l) != x.outputs || e != x.e || at != x.at {
				t.Errorf("C3: case %d: Run is %d outputs, %s, %d; must be %d, %s, %d", i, len(l), nameOf(e), at, x.outputs, nameOf(x.e), x.at)
			}
		}
	}
	p.plays(`
		= all now 4 pending 0 late 0`)
}
