package core_test

import (
	"slices"
	"strings"
	"testing"

	"turnstile/api"
)

// without takes fields out of the rule of a type.
func without(c *api.Config, dialect int, mti string, numbers ...int) {
	for i, r := range c.Dialects[dialect].Rules {
		if r.MTI == mti {
			c.Dialects[dialect].Rules[i].May = slices.DeleteFunc(r.May, func(n int) bool { return slices.Contains(numbers, n) })
		}
	}
}

// must lets a type have a field in each message.
func must(c *api.Config, dialect int, mti string, number int) {
	without(c, dialect, mti, number)
	for i, r := range c.Dialects[dialect].Rules {
		if r.MTI == mti {
			l := append(r.Must, number)
			slices.Sort(l)
			c.Dialects[dialect].Rules[i].Must = l
		}
	}
}

// noRule takes a type out of a dialect.
func noRule(c *api.Config, dialect int, mti string) {
	d := &c.Dialects[dialect]
	d.Rules = slices.DeleteFunc(d.Rules, func(r api.Rule) bool { return r.MTI == mti })
}

// size lets a field have other characters.
func size(c *api.Config, dialect int, s api.FieldSpec) {
	l := c.Dialects[dialect].Fields
	for i := range l {
		if l[i].Number == s.Number {
			l[i] = s
		}
	}
}

// TestCut: what goes out has the fields that its link's dialect lets it have, and its version.
func TestCut(t *testing.T) {
	c := config()
	without(&c, 0, "0210", 2, 38)
	without(&c, 0, "0800", 7)
	without(&c, 2, "1200", 41, 55)
	size(&c, 2, spec(60, api.ClassN, 3, 20))
	played(t, c, openShop, `
		up bank
		> bank 0800 11=000001 70=001
		down bank`, `
		up vault
		> vault 1800 7=1115120000 11=000002 70=001
		in vault 1810 39=00 70=001
		in shop 0200 2=4111111111111111 3=200000 4=000000001250 7=1115115958 11=000010 41=terminal 48=0102AB 55=$9A03261115 60=text
		> vault 1200 2=4111111111111111 3=200000 4=000000001250 7=1115120000 11=000003 32=7 37=631912000003 48=0102AB
		= waits shop>vault:3
		in vault 1210 2=4111111111111111 3=200000 11=000003 38=A_B__c 39=00 48=0102CD 55=$5F340101 60=17
		> shop 0210 3=200000 7=1115115958 11=000010 39=00 48=0102CD 55=$5F340101 60=17
		in shop 0201 2=4111111111111111 4=000000001250 11=000011 60=42
		> vault 1201 2=4111111111111111 4=000000001250 7=1115120000 11=000004 32=7 37=631912000004 60=42`)
}

// TestSentAndRequest: what is kept of a request is as it came, and as it went, ahead of being cut; without tags.
func TestSentAndRequest(t *testing.T) {
	c := config()
	without(&c, 2, "1200", 41)
	p := played(t, c, openTill, openVault, `
		in till 0200 2=4111111111111111 4=000000001250 7=1115115958 11=000010 41=terminal
		> vault 1200 2=4111111111111111 4=000000001250 7=1115120000 11=000002 32=12345678901 37=631912000002`)
	w := p.s[0].Waiting()
	if len(w) != 1 {
		t.Fatalf("C7: %d requests wait", len(w))
	}
	if k := (api.Key{Link: 2, Class: 2, Number: "000010", Stamp: "1115115958", Terminal: "terminal"}); w[0].Key != k || w[0].From != 2 || w[0].To != 3 || w[0].Number != 2 {
		t.Errorf("C7: what waits is %+v", w[0])
	}
	if s := line(w[0].Request, plain()); s != "0200 2=4111111111111111 4=000000001250 7=1115115958 11=000010 41=terminal" {
		t.Errorf("C7: Request is %s", s)
	}
	if s := line(w[0].Sent, plain()); s != "0200 2=4111111111111111 4=000000001250 7=1115120000 11=000002 32=12345678901 37=631912000002 41=terminal" {
		t.Errorf("C7: Sent is %s", s)
	}
}

// TestCantBeWritten: the link is told with the error, and the field that Build tells.
func TestCantBeWritten(t *testing.T) {
	for _, x := range []struct {
		bend   func(c *api.Config)
		script string
	}{
		{func(c *api.Config) { must(c, 0, "0810", 38) }, `! shop ErrMust 38`},
		{func(c *api.Config) { must(c, 0, "0810", 2) }, `! shop ErrMust 2`},
		{func(c *api.Config) { noRule(c, 0, "0810") }, `! shop ErrMTI 0`},
		{func(c *api.Config) { c.Links[0].Most = 46 }, `! shop ErrLong 0`}, // the question has 45 bytes, the answer 47
	} {
		c := config()
		x.bend(&c)
		played(t, c, `
			up shop
			in shop 0800 11=000001 70=001
			`+x.script+`
			= shop up ready held 0 queued 0 dead 0 keys 0
			in shop 0210 39=00
			! shop ErrKind 0`)
	}
	c := config()
	must(&c, 2, "1800", 49)
	noRule(&c, 0, "0800")
	played(t, c, `
		up vault
		! vault ErrMust 49
		up bank
		! bank ErrMTI 0
		tick 999
		tick 1
		! bank ErrMTI 0
		! vault ErrMust 49`)
	c = config()
	c.Links[3].Most = 53
	played(t, c, `
		up vault
		! vault ErrLong 0`)
	c.Links[3].Most = 54
	played(t, c, openVault)
}

// TestTooLong: a message of more bytes than there may be.
func TestTooLong(t *testing.T) {
	c := config()
	size(&c, 0, spec(60, api.ClassANS, 4, 9999))
	size(&c, 2, api.FieldSpec{Number: 60, Class: api.ClassANS, Enc: api.ASCII, Digits: 4, LenEnc: api.BINARY, Size: 9999})
	c.Links[0].Most, c.Links[3].Most = 9999, 9999
	long := func(n int) string { return strings.Repeat("x", n) }
	played(t, c, openShop, openVault, `
		in shop 0200 2=4111111111111111 4=000000001250 7=1115115958 11=000010 60=`+long(9914)+`
		> vault 1200 2=4111111111111111 4=000000001250 7=1115120000 11=000002 32=7 37=631912000002 60=`+long(9914)+`
		in shop 0200 2=4111111111111111 4=000000001250 7=1115115958 11=000011 60=`+long(9915)+`
		> shop 0210 2=4111111111111111 4=000000001250 7=1115115958 11=000011 39=30
		in shop 0220 2=4111111111111111 4=000000001250 7=1115115958 11=000011 60=`+long(9915)+`
		> shop 0230 2=4111111111111111 4=000000001250 7=1115115958 11=000011 39=00
		= bank queue 0220:4
		in vault 1210 2=4111111111111111 4=000000001250 11=000002 39=91 60=`+long(9927)+`
		> shop 0210 2=4111111111111111 4=000000001250 7=1115115958 11=000010 39=91 60=`+long(9927)+`
		in shop 0200 2=4111111111111111 4=000000001250 7=1115115958 11=000010
		> vault 1200 2=4111111111111111 4=000000001250 7=1115120000 11=000005 32=7 37=631912000005
		in vault 1210 2=4111111111111111 4=000000001250 11=000005 39=00 60=`+long(9928)+`
		! shop ErrLength 0
		= shop counts 3 1 2 1 0 0 2 0 0 0 2500 0`)
}

// TestNoNumberForAQuestion: then nothing is said, and the wait goes on all the same.
func TestNoNumberForAQuestion(t *testing.T) {
	c := config()
	c.Numbers, c.Links[1].Answer = 1, 2
	played(t, c, openShop, openVault, `
		in shop 0200 2=4111111111111111 4=000000001250 11=000010
		> vault 1200 2=4111111111111111 4=000000001250 7=1115120000 11=000001 32=7 37=631912000001
		up bank
		tick 2
		in vault 1210 11=000001 39=00
		> shop 0210 11=000010 39=00
		tick 1
		tick 1
		> bank 0800 7=1115120004 11=000001 70=001
		= bank up off held 0 queued 0 dead 0 keys 0`)
}

// TestQuestionsNumbers: each question has another one, round and round, without those that are taken.
func TestQuestionsNumbers(t *testing.T) {
	c := config()
	c.Numbers, c.Timeout, c.Links[1].Answer = 3, 100, 1
	played(t, c, openShop, openVault, `
		in shop 0200 2=4111111111111111 4=000000001250 11=000010
		> vault 1200 2=4111111111111111 4=000000001250 7=1115120000 11=000002 32=7 37=631912000002
		up bank
		> bank 0800 7=1115120000 11=000003 70=001
		tick 3
		> bank 0800 7=1115120001 11=000001 70=001
		> bank 0800 7=1115120002 11=000003 70=001
		> bank 0800 7=1115120003 11=000001 70=001`)
}

// TestNotedAndSent: an answer that can't be written is counted all the same.
func TestNotedAndSent(t *testing.T) {
	c := config()
	must(&c, 0, "0210", 60)
	played(t, c, openShop, openBank, `
		in shop 0200 2=4111111111111112 4=000000001250
		! shop ErrMust 60
		= shop counts 1 0 1 0 0 0 0 0 0 0 0 0`, asks, `
		in bank 0210 11=000002 39=00 60=x
		> shop 0210 7=1115115958 11=000010 39=00 60=x
		= shop counts 2 1 1 0 0 0 1 0 0 0 1250 0`)
	c = config()
	must(&c, 0, "0210", 60)
	played(t, c, openShop, openBank, asks, `
		tick 5
		! shop ErrMust 60
		> bank 0420 2=4111111111111111 4=000000001250 7=1115120005 11=000003 32=7 37=631912000002 90=020000000211151200000000000000700000000000
		= shop counts 1 0 1 0 0 0 0 0 0 0 0 0`)
}

// TestPumpGivesUp: what was sent as often as may be is given up, its number is free, and what waits behind it goes out.
func TestPumpGivesUp(t *testing.T) {
	c := config()
	c.Numbers = 3
	played(t, c, openShop, openBank, `
		in shop 0220 2=4111111111111111 11=000010
		> bank 0220 2=4111111111111111 7=1115120000 11=000002 32=7 37=631912000002
		> shop 0230 2=4111111111111111 11=000010 39=00
		in shop 0220 2=4111111111111111 11=000011
		> shop 0230 2=4111111111111111 11=000011 39=00
		= bank queue 0220:2 0220:3
		in shop 0220 2=4111111111111111 11=000012
		> shop 0230 2=4111111111111111 11=000012 39=96
		tick 3
		tick 1
		> bank 0221 2=4111111111111111 7=1115120000 11=000002 32=7 37=631912000002
		tick 3
		= bank up ready held 0 queued 2 dead 0 keys 0
		tick 1
		> bank 0220 2=4111111111111111 7=1115120000 11=000003 32=7 37=631912000003
		= bank up ready held 0 queued 1 dead 1 keys 0
		in shop 0220 2=4111111111111111 11=000012
		> shop 0230 2=4111111111111111 11=000012 39=00
		= bank queue 0220:3 0220:2
		in bank 0230 11=000002
		! bank ErrNone 0
		in bank 0230 11=000003
		> bank 0220 2=4111111111111111 7=1115120008 11=000002 32=7 37=631912000002
		= bank queue 0220:2`)
}

// TestAdviceThatCantBeWritten counts as sent.
func TestAdviceThatCantBeWritten(t *testing.T) {
	c := config()
	noRule(&c, 0, "0220")
	c.Dialects[0].Rules = append(c.Dialects[0].Rules, api.Rule{MTI: "0220", Must: []int{2, 7, 11}, May: []int{4, 32, 37, 38, 39}})
	slices.SortFunc(c.Dialects[0].Rules, func(a, b api.Rule) int { return strings.Compare(a.MTI, b.MTI) })
	must(&c, 2, "1220", 41)
	played(t, c, openShop, openVault, `
		in shop 0220 2=4242424242424242 7=1115115958 11=000010
		! vault ErrMust 41
		> shop 0230 2=4242424242424242 7=1115115958 11=000010 39=00
		= vault queue 0220:2
		tick 4
		> vault 1221 2=4242424242424242 7=1115120000 11=000002 32=7 37=631912000002
		in vault 1230 11=000002
		= vault queue`)
}

// TestLayDownBehind: what waits goes out one by one, each when the one ahead of it is answered.
func TestLayDownBehind(t *testing.T) {
	played(t, config(), openShop, openBank, `
		in shop 0220 2=4111111111111111 11=000010
		> bank 0220 2=4111111111111111 7=1115120000 11=000002 32=7 37=631912000002
		> shop 0230 2=4111111111111111 11=000010 39=00
		in shop 0120 2=4111111111111111 11=000011
		> shop 0130 2=4111111111111111 11=000011 39=00
		in shop 0220 2=4111111111111111 11=000012
		> shop 0230 2=4111111111111111 11=000012 39=96
		= bank queue 0220:2 0120:3
		in bank 0230 11=000002 39=91
		> bank 0120 2=4111111111111111 7=1115120000 11=000003 32=7 37=631912000003
		in bank 0430 11=000003
		= bank queue`)
}
