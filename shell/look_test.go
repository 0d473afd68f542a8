package shell_test

import (
	"testing"

	"turnstile/api"
)

// What `view`, `waiting` and `queued` tell.

// TestViewOfCounts: all twelve, each another number.
func TestViewOfCounts(t *testing.T) {
	plays(t, doc(), `
		up shop
		send shop 0800 70=001
		| > shop 0810 39=00 70=001
		send shop 0200 2=4111111111111111 3=200000 4=000000000100 11=000001
		| > shop 0210 2=4111111111111111 3=200000 4=000000000100 11=000001 38=000001 39=00
		send shop 0200 2=4111111111111111 3=000000 4=000000000020 11=000002
		| > shop 0210 2=4111111111111111 3=000000 4=000000000020 11=000002 38=000002 39=00
		send shop 0200 2=4111111111111111 3=000000 4=000000000003 11=000003
		| > shop 0210 2=4111111111111111 3=000000 4=000000000003 11=000003 39=91
		view
		| time 2026-11-15 12:00:00 ticks 0 pending 0 late 0
		| shop up ready held 0 queued 0 dead 0 keys 0 3 2 1 0 1 0 1 0 100 0 20 0
		| bank down off held 0 queued 2 dead 0 keys 0 0 0 0 0 0 0 0 0 0 0 0 0
		queued bank
		| queue bank 1 0220
		| queue bank 2 0220
		queued shop
		waiting`)
}

// TestViewOfAll: what is not a count, each another number, of links that are up or down, ready or off.
func TestViewOfAll(t *testing.T) {
	c := doc()
	c.Links[1].Echo, c.Retry, c.Tries, c.Queue, c.Pending = 0, 2, 1, 3, 9
	plays(t, c, docOpen+`
		send shop 0200 2=4111111111111111 4=000000000100 11=000001
		| > bank 0200 2=4111111111111111 4=000000000100 7=1115120000 11=000002 32=7 37=631912000002
		send shop 0100 2=4111111111111111 4=000000000100 11=000002
		| > bank 0100 2=4111111111111111 4=000000000100 7=1115120000 11=000003 32=7 37=631912000003
		waiting
		| wait shop bank 2 0200
		| wait shop bank 3 0100
		tick 4
		send shop 0201 2=4111111111111111 4=000000000100 11=000004
		| > bank 0201 2=4111111111111111 4=000000000100 7=1115120004 11=000004 32=7 37=631912000004
		waiting
		| wait shop bank 2 0200
		| wait shop bank 3 0100
		| wait shop bank 4 0201
		tick 1
		| > shop 0210 2=4111111111111111 4=000000000100 11=000001 39=68
		| > bank 0420 2=4111111111111111 4=000000000100 7=1115120005 11=000005 32=7 37=631912000002 90=020000000211151200000000000000700000000000
		| > shop 0110 2=4111111111111111 4=000000000100 11=000002 39=68
		bytes bank 00
		down shop
		up shop
		bytes shop 3939
		view
		| time 2026-11-15 12:00:05 ticks 5 pending 1 late 2
		| shop up off held 2 queued 0 dead 0 keys 0 2 0 2 0 0 0 0 0 0 0 0 0
		| bank up ready held 1 queued 2 dead 0 keys 0 0 0 0 0 0 0 0 0 0 0 0 0
		queued bank
		| queue bank 5 0420
		| queue bank 6 0420
		waiting
		| wait shop bank 4 0201
		tick 1
		| > bank 0420 2=4111111111111111 4=000000000100 7=1115120005 11=000006 32=7 37=631912000003 90=010000000311151200000000000000700000000000
		down bank
		view
		| time 2026-11-15 12:00:06 ticks 6 pending 1 late 2
		| shop up off held 2 queued 0 dead 0 keys 0 2 0 2 0 0 0 0 0 0 0 0 0
		| bank down off held 0 queued 1 dead 1 keys 0 0 0 0 0 0 0 0 0 0 0 0 0`)
}

// TestViewOfTime: the moment stays at the last one, ticks do not.
func TestViewOfTime(t *testing.T) {
	c := doc()
	c.Start = api.MaxMoment - 2
	links := `
		| shop down off held 0 queued 0 dead 0 keys 0 0 0 0 0 0 0 0 0 0 0 0 0
		| bank down off held 0 queued 0 dead 0 keys 0 0 0 0 0 0 0 0 0 0 0 0 0`
	plays(t, c, `
		view
		| time 2099-12-31 23:59:57 ticks 0 pending 0 late 0`+links+`
		tick 1
		view
		| time 2099-12-31 23:59:58 ticks 1 pending 0 late 0`+links+`
		tick 1
		view
		| time 2099-12-31 23:59:59 ticks 2 pending 0 late 0`+links+`
		tick 1
		view
		| time 2099-12-31 23:59:59 ticks 3 pending 0 late 0`+links+`
		tick 100000
		view
		| time 2099-12-31 23:59:59 ticks 100003 pending 0 late 0`+links)
	c.Start = 0
	plays(t, c, `
		tick 86399
		view
		| time 2000-01-01 23:59:59 ticks 86399 pending 0 late 0`+links+`
		tick 1
		view
		| time 2000-01-02 00:00:00 ticks 86400 pending 0 late 0`+links)
}

// TestWaitingOverLinks: from and to are told by their names.
func TestWaitingOverLinks(t *testing.T) {
	c := config()
	c.Links[2].Dialect, c.Links[2].MAC, c.Links[2].Pad, c.Links[2].Key, c.Links[2].Exchange = 0, 0, 0, "", ""
	c.Links[3].Dialect, c.Links[3].MAC, c.Links[3].Pad, c.Links[3].Key = 0, 0, 0, ""
	plays(t, c, docOpen+`
		up till
		up vault
		| > vault 0800 7=1115120000 11=000002 70=001
		send vault 0810 39=00 70=001
		send till 0800 70=001
		| > till 0810 39=00 70=001
		send till 0200 2=4242424242424242 4=000000000100 11=000001
		| > vault 0200 2=4242424242424242 4=000000000100 7=1115120000 11=000003 32=12345678901 37=631912000003
		send shop 0201 2=5555555555554444 4=000000000100 11=000001
		| > vault 0201 2=5555555555554444 4=000000000100 7=1115120000 11=000004 32=7 37=631912000004
		send till 0100 2=4111111111111111 4=000000000100 11=000001
		| > bank 0100 2=4111111111111111 4=000000000100 7=1115120000 11=000005 32=12345678901 37=631912000005
		waiting
		| wait till vault 3 0200
		| wait shop vault 4 0201
		| wait till bank 5 0100
		send vault 0210 11=000003 39=00
		| > till 0210 11=000001 39=00
		waiting
		| wait shop vault 4 0201
		| wait till bank 5 0100
		down vault
		send till 0120 2=4242424242424242 11=000009
		| > till 0130 2=4242424242424242 11=000009 39=00
		queued vault
		| queue vault 6 0120
		queued bank
		queued shop
		queued till`)
}
