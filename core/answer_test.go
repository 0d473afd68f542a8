package core_test

import (
	"fmt"
	"testing"

	"turnstile/api"
)

// TestAnswered: the answer has the request's fields 7, 11, 32 and 37, and no others of these; all else is the issuer's.
func TestAnswered(t *testing.T) {
	for _, x := range []struct{ request, answer, want string }{
		{"11=000010", "7=0101000000 11=000002 32=8 37=issuer012345 39=51", "11=000010 39=51"},
		{"7=1115115958", "11=000002 39=51 60=x", "7=1115115958 39=51 60=x"},
		{"7=1115115958 11=000010 32=99 37=reference012", "11=000002", "7=1115115958 11=000010 32=99 37=reference012"},
		{"32=99", "2=5555 4=000000000007 7=0101000000 11=000002 38=A1B2C3 39=00 41=terminal 48=0102AB 55=$9A03261115", "2=5555 4=000000000007 32=99 38=A1B2C3 39=00 41=terminal 48=0102AB 55=$9A03261115"},
	} {
		played(t, config(), openShop, openBank, `
			in shop 0200 2=4111111111111111 4=000000001250 60=_ `+x.request+`
			> bank 0200 2=4111111111111111 4=000000001250 7=1115120000 11=000002 32=7 37=631912000002 60=_
			in bank 0210 `+x.answer+`
			> shop 0210 `+x.want+`
			= waits
			= all now 0 pending 0 late 0`)
	}
}

// TestAnswersType: it is the one that answers the request's, whatever the issuer's is.
func TestAnswersType(t *testing.T) {
	for _, x := range [][3]string{{"0100", "0110", "0110"}, {"0101", "0210", "0110"}, {"0200", "0110", "0210"}, {"0201", "0210", "0210"}} {
		p := played(t, config(), openShop, openBank)
		p.steps(p.event([]string{"in", "shop", x[0], "2=4111111111111111", "4=000000001250"}))
		p.plays(`
			in bank ` + x[1] + ` 11=000002 39=00
			> shop ` + x[2] + ` 39=00
			= shop counts 1 1 0 0 0 0 1 0 0 0 1250 0`)
	}
}

// TestAnswerOfNone: of no number, of one that is not out, of one that went over another link.
func TestAnswerOfNone(t *testing.T) {
	played(t, config(), openShop, openBank, vaultAfterBank, `
		in shop 0200 2=4111111111111111 4=000000001250 11=000010
		> bank 0200 2=4111111111111111 4=000000001250 7=1115120000 11=000003 32=7 37=631912000003
		in bank 0210 39=00
		! bank ErrNone 0
		in bank 0210 11=000000 39=00
		! bank ErrNone 0
		in bank 0210 11=000010 39=00
		! bank ErrNone 0
		in vault 1210 11=000003 39=00
		! vault ErrNone 0
		= waits shop>bank:3
		in bank 0210 11=000003 39=00
		> shop 0210 11=000010 39=00
		in bank 0210 11=000003 39=00
		! bank ErrNone 0`)
}

// TestLostAnswer: of a link that is not ready; nothing is sent, nothing counted; done is what it says.
func TestLostAnswer(t *testing.T) {
	for _, off := range []string{"down shop", "in shop 0800 70=002\n> shop 0810 39=00 70=002"} {
		played(t, config(), openShop, openBank, asks, off, `
			in bank 0210 11=000002 39=00
			= waits
			= shop counts 0 0 0 0 0 0 0 0 0 0 0 0
			down bank
			up bank
			> bank 0800 7=1115120000 11=000003 70=001
			in bank 0810 39=00 70=001`)
	}
	played(t, config(), openShop, openBank, asks, `
		down shop
		in bank 0210 11=000002 39=00`, openShop, `
		in shop 0420 11=000020 90=020000001011151159580000000000000000000000
		> bank 0420 2=4111111111111111 4=000000001250 7=1115120000 11=000003 32=7 37=631912000002 90=020000000211151200000000000000700000000000
		> shop 0430 11=000020 39=00 90=020000001011151159580000000000000000000000`)
}

// TestAnswerOverALinkThatCameAgain: what waits stays when links go.
func TestAnswerOverALinkThatCameAgain(t *testing.T) {
	played(t, config(), openShop, openBank, asks, `
		down bank
		down shop`, openShop, `
		up bank
		> bank 0800 7=1115120000 11=000003 70=001
		in bank 0810 39=00 70=001
		in bank 0210 11=000002 39=00
		> shop 0210 7=1115115958 11=000010 39=00`)
}

// TestCounted: what is counted of answers, by the request's amount and kind.
func TestCounted(t *testing.T) {
	played(t, config(), openShop, openTill, openBank, `
		in shop 0200 2=4111111111111111 3=200000 4=000000001250 11=000010
		> bank 0200 2=4111111111111111 3=200000 4=000000001250 7=1115120000 11=000002 32=7 37=631912000002
		in bank 0210 3=000000 4=999999999999 11=000002 39=00
		> shop 0210 3=000000 4=999999999999 11=000010 39=00
		= shop counts 1 1 0 0 1 0 0 0 1250 0 0 0
		in till 0100 2=4111111111111111 4=000000000001 11=000010
		> bank 0100 2=4111111111111111 4=000000000001 7=1115120000 11=000003 32=12345678901 37=631912000003
		in bank 0110 11=000003 39=01
		> till 0110 11=000010 39=01
		in till 0100 2=4111111111111111 4=000000000001 11=000010
		> bank 0100 2=4111111111111111 4=000000000001 7=1115120000 11=000004 32=12345678901 37=631912000004
		in bank 0110 11=000004
		> till 0110 11=000010
		= shop counts 1 1 0 0 1 0 0 0 1250 0 0 0
		= till counts 2 0 2 0 0 0 0 0 0 0 0 0
		= bank counts 0 0 0 0 0 0 0 0 0 0 0 0`)
}

// TestLate: a request that waited in vain is answered with 68, and taken back; its late answer does nothing but free its number.
func TestLate(t *testing.T) {
	c := config()
	c.Numbers = 2
	played(t, c, openShop, openBank, `
		in shop 0200 2=4111111111111111 3=000000 4=000000001250 7=1115115958 11=000010 12=115958 13=1115 37=reference012 38=abcdef 41=terminal 42=fifteen.letters 49=978 60=x
		> bank 0200 2=4111111111111111 3=000000 4=000000001250 7=1115120000 11=000002 12=115958 13=1115 32=7 37=631912000002 38=abcdef 41=terminal 42=fifteen.letters 49=978 60=x
		tick 4
		= all now 4 pending 1 late 0
		tick 1
		> shop 0210 2=4111111111111111 3=000000 4=000000001250 7=1115115958 11=000010 12=115958 13=1115 37=reference012 39=68 41=terminal 42=fifteen.letters 49=978
		> bank 0420 2=4111111111111111 3=000000 4=000000001250 7=1115120005 11=000001 12=115958 13=1115 32=7 37=631912000002 38=abcdef 41=terminal 42=fifteen.letters 49=978 90=020000000211151200000000000000700000000000
		= all now 5 pending 0 late 1
		= waits
		= shop counts 1 0 1 0 0 0 0 0 0 0 0 0
		in bank 0430 11=000001
		in shop 0200 2=4111111111111111 4=000000001250 7=1115115958 11=000010 41=terminal
		> bank 0200 2=4111111111111111 4=000000001250 7=1115120005 11=000001 32=7 37=631912000001 41=terminal
		in bank 0210 11=000002 39=00
		= all now 5 pending 1 late 0
		in bank 0210 11=000002 39=00
		! bank ErrNone 0
		in shop 0200 2=4111111111111111 4=000000001250 7=1115115958 11=000011
		> bank 0200 2=4111111111111111 4=000000001250 7=1115120005 11=000002 32=7 37=631912000002
		in shop 0420 11=000020 90=020000001011151159580000000000000000000000
		> shop 0430 11=000020 39=21 90=020000001011151159580000000000000000000000`)
}

// TestLateOfALinkThatIsOff: it is not answered, and not counted, but taken back.
func TestLateOfALinkThatIsOff(t *testing.T) {
	for _, off := range []string{"down shop", "in shop 0800 70=002\n> shop 0810 39=00 70=002"} {
		played(t, config(), openShop, openBank, asks, off, `
			tick 5
			> bank 0420 2=4111111111111111 4=000000001250 7=1115120005 11=000003 32=7 37=631912000002 90=020000000211151200000000000000700000000000
			= shop counts 0 0 0 0 0 0 0 0 0 0 0 0
			= bank queue 0420:3`)
	}
}

// TestLateWithoutTheIssuer: what takes it back waits for that link, which need not be the group's first.
func TestLateWithoutTheIssuer(t *testing.T) {
	p := played(t, config(), openShop, openVault, `
		in shop 0200 2=4111111111111111 4=000000001250 11=000010
		> vault 1200 2=4111111111111111 4=000000001250 7=1115120000 11=000002 32=7 37=631912000002
		down vault
		tick 5
		> shop 0210 2=4111111111111111 4=000000001250 11=000010 39=68
		= bank queue
		= vault queue 0420:3`)
	p.queued("vault", 0, "0420 2=4111111111111111 4=000000001250 7=1115120005 11=000003 32=7 37=631912000002 90=020000000211151200000000000000700000000000")
	p.plays(`
		up vault
		> vault 1800 7=1115120005 11=000004 70=001
		in vault 1810 39=00 70=001
		> vault 1420 2=4111111111111111 4=000000001250 7=1115120005 11=000003 32=7 37=631912000002 90=020000000211151200000000000000700000000000`)
}

// TestCantBeTakenBack: no number, or no room in the queue; that is told of the link over which it went, behind the answer.
func TestCantBeTakenBack(t *testing.T) {
	c := config()
	c.Numbers = 1
	played(t, c, openShop, openBank, `
		in shop 0200 2=4111111111111111 4=000000001250 11=000010
		> bank 0200 2=4111111111111111 4=000000001250 7=1115120000 11=000001 32=7 37=631912000001
		tick 5
		> shop 0210 2=4111111111111111 4=000000001250 11=000010 39=68
		! bank ErrSpent 0
		= bank queue
		tick 9
		in shop 0200 2=4111111111111111 4=000000001250 11=000010
		> shop 0210 2=4111111111111111 4=000000001250 11=000010 39=96
		tick 1
		in shop 0200 2=4111111111111111 4=000000001250 11=000010
		> bank 0200 2=4111111111111111 4=000000001250 7=1115120015 11=000001 32=7 37=631912000001`)
	c = config()
	c.Queue, c.Numbers = 1, 4
	played(t, c, openShop, openBank, `
		in shop 0200 2=4111111111111111 4=000000001250 11=000010
		> bank 0200 2=4111111111111111 4=000000001250 7=1115120000 11=000002 32=7 37=631912000002
		in shop 0200 2=4111111111111111 4=000000001250 11=000011
		> bank 0200 2=4111111111111111 4=000000001250 7=1115120000 11=000003 32=7 37=631912000003
		tick 5
		> shop 0210 2=4111111111111111 4=000000001250 11=000010 39=68
		> bank 0420 2=4111111111111111 4=000000001250 7=1115120005 11=000004 32=7 37=631912000002 90=020000000211151200000000000000700000000000
		> shop 0210 2=4111111111111111 4=000000001250 11=000011 39=68
		! bank ErrQueue 0
		= bank queue 0420:4
		in shop 0200 2=4111111111111111 4=000000001250 11=000012
		> bank 0200 2=4111111111111111 4=000000001250 7=1115120005 11=000001 32=7 37=631912000001`)
}

// TestAcknowledged: the number is free; of one that is not under way nothing is known.
func TestAcknowledged(t *testing.T) {
	for _, mti := range []string{"0130", "0230", "0430"} {
		c := config()
		c.Numbers = 2
		played(t, c, openShop, openBank, `
			in shop 0220 2=4111111111111111 11=000010
			> bank 0220 2=4111111111111111 7=1115120000 11=000002 32=7 37=631912000002
			> shop 0230 2=4111111111111111 11=000010 39=00
			in shop 0220 2=4111111111111111 11=000011
			> shop 0230 2=4111111111111111 11=000011 39=00
			in bank `+mti+` 39=00
			! bank ErrNone 0
			in bank `+mti+` 11=000001 39=00
			! bank ErrNone 0
			= bank queue 0220:2 0220:1
			in bank `+mti+` 11=000002 39=91
			> bank 0220 2=4111111111111111 7=1115120000 11=000001 32=7 37=631912000001
			in bank `+mti+` 11=000002 39=00
			! bank ErrNone 0
			in shop 0220 2=4111111111111111 11=000012
			> shop 0230 2=4111111111111111 11=000012 39=00
			= bank queue 0220:1 0220:2`)
	}
	played(t, config(), openShop, openBank, vaultAfterBank, `
		in shop 0220 2=4111111111111111 11=000010
		> bank 0220 2=4111111111111111 7=1115120000 11=000003 32=7 37=631912000003
		> shop 0230 2=4111111111111111 11=000010 39=00
		in vault 1230 11=000003
		! vault ErrNone 0
		in bank 0230 11=000003`)
}

// TestManyWait: as many as may, of several links, answered in another order.
func TestManyWait(t *testing.T) {
	c := config()
	c.Pending = 200
	p := played(t, c, openShop, openTill, openBank)
	for i := range 200 {
		link := []string{"shop", "till"}[i%2]
		l := p.steps(p.event([]string{"in", link, "0200", "2=4111111111111111", "4=000000000001", fmt.Sprintf("11=%06d", i)}))
		if len(l) != 1 || l[0][:6] != "> bank" {
			t.Fatalf("C7: comes %q", l)
		}
	}
	p.plays("= all now 0 pending 200 late 0")
	for i := range 200 {
		k := (i * 77) % 200
		link := []string{"shop", "till"}[k%2]
		p.plays(fmt.Sprintf("in bank 0210 11=%06d 39=00\n> %s 0210 11=%06d 39=00", k+2, link, k))
	}
	p.plays(`
		= all now 0 pending 0 late 0
		= shop counts 100 100 0 0 0 0 100 0 0 0 100 0`)
	if v := p.s[0].View(); v.Counts[2] != (api.Counts{Requests: 100, Approved: 100, Debits: 100, DebitSum: 100}) {
		t.Errorf("C8: of till is counted %+v", v.Counts[2])
	}
}
