package core_test

import (
	"encoding/hex"
	"fmt"
	"slices"
	"strings"
	"testing"

	"turnstile/api"
	"turnstile/cipher"
)

// TestDefects: a message that is none is refused with what is wrong, and where; nothing more comes of it.
func TestDefects(t *testing.T) {
	played(t, config(), openShop, openBank, `
		raw shop 00040900
		! shop DefMTI 0
		raw shop 000202
		! shop DefShort 2
		raw shop 001202008000000x
		! shop DefMap 11
		raw shop 00200200`+`0000080000000000
		! shop DefUnknown 20
		raw shop 00280200`+`002000000000000012x456
		raw shop 78
		! shop DefContent 22
		raw shop 00200210`+`0000000000000000
		! shop ErrKind 0
		raw shop 00210210`+`0000000000000000x
		! shop DefRest 20
		raw bank $000130
		! bank DefShort 1
		= all now 0 pending 0 late 0`)
	c := config()
	must(&c, 0, "0200", 41)
	without(&c, 0, "0200", 3)
	played(t, c, openShop, openBank, `
		raw shop 00260200`+`0020000000000000000001
		! shop DefRule 26
		raw shop 00400200`+`2020000000800000000000000001terminal
		! shop DefRule 20`)
}

// TestPumpBehind: what waits goes out as soon as its link is ready, behind the message that made it so; and behind the answer for what was ahead of it.
func TestPumpBehind(t *testing.T) {
	played(t, config(), openShop, openVault, `
		in shop 0220 2=5555555555554444 11=000010
		> vault 1220 2=5555555555554444 7=1115120000 11=000002 32=7 37=631912000002
		> shop 0230 2=5555555555554444 11=000010 39=00
		in shop 0220 2=5555555555554444 11=000011
		> shop 0230 2=5555555555554444 11=000011 39=00
		in vault 1210 11=000007
		! vault ErrNone 0
		down vault
		up vault
		> vault 1800 7=1115120000 11=000004 70=001
		raw vault $000330
		! vault DefShort 1
		forged vault 1810 39=00 70=001
		! vault ErrSeal 40
		in vault 1230 11=000002
		! vault ErrOff 0
		in vault 1800 70=301
		> vault 1810 39=00 70=301
		in vault 1810 39=00 70=001
		> vault 1221 2=5555555555554444 7=1115120000 11=000002 32=7 37=631912000002
		in vault 1230 11=000003
		! vault ErrNone 0
		in vault 1230 11=000002
		> vault 1220 2=5555555555554444 7=1115120000 11=000003 32=7 37=631912000003`)
}

// TestTags: the last eight bytes are the tag of those ahead of them.
func TestTags(t *testing.T) {
	p := played(t, config(), openTill, openVault)
	m := message(sealed(), strings.Fields("0200 2=4111111111111111 4=000000001250 7=1115115958 11=000010"))
	b := p.of(2, m)
	for i := range b {
		turned := []byte(b)
		turned[i] ^= 4
		for _, l := range p.s {
			before := fmt.Sprint(l.View())
			out, e := l.Step(api.Event{Kind: api.EvBytes, Link: 2, Bytes: p.wrapped(2, string(turned))})
			if e != api.OK || len(out) != 1 || out[0].Kind != api.OutReject || out[0].Link != 2 {
				t.Fatalf("C15: with the byte %d turned comes %+v", i, out)
			}
			if out[0].Code == api.ErrSeal && out[0].At != len(b)-8 || out[0].Code != api.ErrSeal && i > len(b)-8 {
				t.Fatalf("C6: with the byte %d of %d turned comes %+v", i, len(b), out)
			}
			if fmt.Sprint(l.View()) != before || len(l.Waiting()) > 0 {
				t.Fatalf("C15: with the byte %d turned something changed", i)
			}
		}
	}
	p.plays(`
		key till otherkey
		in till 0200 2=4111111111111111 4=000000001250 7=1115115958 11=000010
		! till ErrSeal 64
		in till 0800 11=000001 70=002
		! till ErrSeal 27
		key till till's_k
		in till 0200 2=4111111111111111 4=000000001250 7=1115115958 11=000010
		> vault 1200 2=4111111111111111 4=000000001250 7=1115120000 11=000002 32=12345678901 37=631912000002
		forged vault 1210 11=000002 39=00
		! vault ErrSeal 41
		= waits till>vault:2
		in vault 1210 11=000002 39=00
		> till 0210 7=1115115958 11=000010 39=00`)
}

// TestTagFieldIsTakenAway: also where the link has no tags; then nobody looks at it.
func TestTagFieldIsTakenAway(t *testing.T) {
	c := config()
	c.Links[2].MAC, c.Links[2].Pad, c.Links[2].Key, c.Links[2].Exchange = 0, 0, "", ""
	p := played(t, c, `
		up till
		in till 0800 11=000009 70=001 128=whatever
		! till ErrMust 128`, openBank, `
		in till 0200 2=4111111111111111 4=000000001250 11=000010 128=whatever
		> bank 0200 2=4111111111111111 4=000000001250 7=1115120000 11=000002 32=12345678901 37=631912000002`)
	w := p.s[0].Waiting()[0]
	if value(w.Request, 128) != "" || value(w.Sent, 128) != "" {
		t.Errorf("C6: the field of the tag is in %v, or in %v", w.Request, w.Sent)
	}
	c.Dialects[1].Rules = rulesOf(0, specs())
	played(t, c, `
		up till
		in till 0800 11=000009 70=001 128=whatever
		> till 0810 11=000009 39=00 70=001`, openBank, `
		in till 0200 2=4111111111111111 4=000000001250 11=000010
		> bank 0200 2=4111111111111111 4=000000001250 7=1115120000 11=000002 32=12345678901 37=631912000002
		in bank 0210 11=000002 39=00 128=whatever
		> till 0210 11=000010 39=00 128=whatever`)
}

// TestNetwork: questions and answers of the link itself, whether it is ready or not.
func TestNetwork(t *testing.T) {
	played(t, config(), `
		up shop
		in shop 0800 7=1115115900 11=000001 41=terminal 60=text 70=301
		> shop 0810 7=1115115900 11=000001 39=00 41=terminal 70=301
		in shop 0801 11=000002 70=999
		> shop 0810 11=000002 39=12 70=999
		in shop 0800 11=000003
		> shop 0810 11=000003 39=12
		= shop up off held 0 queued 0 dead 0 keys 0
		in shop 0801 70=001
		> shop 0810 39=00 70=001
		= shop up ready held 0 queued 0 dead 0 keys 0
		in shop 0800 70=002
		> shop 0810 39=00 70=002
		= shop up off held 0 queued 0 dead 0 keys 0
		in shop 0810 39=00 70=001
		= shop up off held 0 queued 0 dead 0 keys 0
		= shop counts 0 0 0 0 0 0 0 0 0 0 0 0
		up bank
		> bank 0800 7=1115120000 11=000001 70=001
		in bank 0800 70=001
		> bank 0810 39=12 70=001
		in bank 0810 39=91 70=001
		= bank up off held 0 queued 0 dead 0 keys 0
		in bank 0810 39=00 70=301
		= bank up off held 0 queued 0 dead 0 keys 0
		in bank 0810 39=00
		in bank 0810 70=001
		= bank up off held 0 queued 0 dead 0 keys 0
		in bank 0810 39=00 70=001
		= bank up ready held 0 queued 0 dead 0 keys 0
		in bank 0800 70=002
		> bank 0810 39=00 70=002
		= bank up off held 0 queued 0 dead 0 keys 0`)
}

// TestQuiet: what an issuer is heard by, and what it is not: a new key, what is no message, what bears a wrong tag.
func TestQuiet(t *testing.T) {
	c := config()
	c.Links[3].Echo, c.Links[3].Answer = 3, 1
	for _, x := range []struct {
		script string
		heard  bool
	}{
		{``, false},
		{"raw vault $0002", false},
		{"raw vault $000330\n! vault DefShort 1", false},
		{"forged vault 1210 39=00\n! vault ErrSeal 38", false},
		{"in vault 1800 70=101\n> vault 1810 39=81 70=101", false},
		{"in vault 1210 39=00\n! vault ErrNone 0", true},
		{"in vault 1200 2=4111111111111111\n! vault ErrKind 0", true},
		{"in vault 1430\n! vault ErrNone 0", true},
		{"in vault 1810 39=00 70=001", true},
		{"in vault 1800 70=999\n> vault 1810 39=12 70=999", true},
	} {
		p := played(t, c, openVault, `
			tick 2`)
		p.plays(x.script)
		asked := `
			> vault 1800 7=1115120003 11=000002 70=301`
		if x.heard {
			p.plays("tick 2\ntick 1\n> vault 1800 7=1115120005 11=000002 70=301")
		} else {
			p.plays("tick 1" + asked)
		}
		p.plays(`
			in vault 1810 70=301
			tick 2`)
	}
}

// kinds of messages that come over links which take them.
var taken = map[int][]string{
	api.Acquirer: {"0100", "0101", "0200", "0201", "0120", "0121", "0220", "0221", "0420", "0421", "0500", "0501", "0800", "0801", "0810"},
	api.Issuer:   {"0110", "0210", "0130", "0230", "0430", "0800", "0801", "0810"},
}

// TestKinds: which types come over which link; none but those of the network, unless it is ready.
func TestKinds(t *testing.T) {
	for link, name := range []string{"shop", "bank"} {
		for _, r := range plain().Rules {
			in := "in " + name + " " + r.MTI + " 11=000099 70=999"
			off := newPair(t, config())
			off.plays("up shop")
			off.steps(api.Event{Kind: api.EvUp, Link: 1})
			on := played(t, config(), openShop, openBank)
			is := on.steps(on.event(strings.Fields(in)))
			kind := slices.Contains(taken[link+1], r.MTI)
			if kind == slices.Contains(is, "! "+name+" ErrKind 0") {
				t.Errorf("C6: of %s over %s comes %q", r.MTI, name, is)
			}
			isOff := off.steps(off.event(strings.Fields(in)))
			if (r.MTI[1] != '8') != slices.Equal(isOff, []string{"! " + name + " ErrOff 0"}) {
				t.Errorf("C6: of %s over %s, which is not ready, comes %q", r.MTI, name, isOff)
			}
		}
	}
}

func sixteenths(b string) string { return strings.ToUpper(hex.EncodeToString([]byte(b))) }

// wrappedKey is a key as it comes under the exchange key.
func wrappedKey(key string) string {
	x, _ := cipher.New(exchange)
	b, _ := x.Encrypt(key)
	return sixteenths(b)
}

func checkOf(key string) string {
	b, _ := cipher.Check(key)
	return sixteenths(b)
}

// sub is a sub-element.
func sub(tag int, value string) string { return fmt.Sprintf("%02d%02d%s", tag, len(value), value) }

// TestNewKey: the link's tags are made with it from its own answer on. The first sub-elements of their tags count.
func TestNewKey(t *testing.T) {
	key, next := "new_key.", "the_next"
	played(t, config(), `
		up till
		newkey till $`+sixteenths(key)+` 0800 11=000001 48=`+sub(1, wrappedKey(key))+sub(2, checkOf(key))+` 70=101
		> till 0810 11=000001 39=00 70=101
		= till up off held 0 queued 0 dead 0 keys 1
		in till 0800 11=000009 70=001
		> till 0810 11=000009 39=00 70=001
		key till till's_k
		in till 0800 11=000009 70=002
		! till ErrSeal 27
		key till $`+sixteenths(key)+`
		newkey till $`+sixteenths(next)+` 0801 48=`+sub(3, "x")+sub(2, checkOf(next))+sub(1, wrappedKey(next))+sub(1, "FF")+sub(2, "zz")+` 70=101
		> till 0810 39=00 70=101
		= till up ready held 0 queued 0 dead 0 keys 2
		in till 0810 39=00 48=`+sub(1, wrappedKey(key))+sub(2, checkOf(key))+` 70=101
		= till up ready held 0 queued 0 dead 0 keys 2
		down till
		= till down off held 0 queued 0 dead 0 keys 2
		up till
		in till 0800 70=001
		> till 0810 39=00 70=001`)
}

// TestNewKeyOfAnIssuer: it may change its key, too; what waits is not touched.
func TestNewKeyOfAnIssuer(t *testing.T) {
	key := "sixteen_bytes_ok"
	played(t, config(), openShop, openVault, `
		in shop 0200 2=5555555555554444 4=000000001250 7=1115115958 11=000010
		> vault 1200 2=5555555555554444 4=000000001250 7=1115120000 11=000002 32=7 37=631912000002
		newkey vault $`+sixteenths(key)+` 1801 48=`+sub(2, checkOf(key))+sub(7, "")+sub(1, wrappedKey(key))+` 70=101
		> vault 1810 39=00 70=101
		= vault up ready held 0 queued 0 dead 0 keys 1
		in vault 1210 11=000002 39=00
		> shop 0210 7=1115115958 11=000010 39=00
		in shop 0200 2=5555555555554444 4=000000001250 7=1115115958 11=000011
		> vault 1200 2=5555555555554444 4=000000001250 7=1115120000 11=000003 32=7 37=631912000003`)
}

// TestWrongNewKeys: answered with 81, under the old key.
func TestWrongNewKeys(t *testing.T) {
	key, weak := "new key.", "\x01\x01\x01\x01\x01\x01\x01\x01"
	right := sub(1, wrappedKey(key)) + sub(2, checkOf(key))
	for _, s := range []string{
		"",
		"48=" + sub(1, wrappedKey(key)),
		"48=" + sub(2, checkOf(key)),
		"48=" + sub(1, checkOf(key)) + sub(2, wrappedKey(key)),
		"48=" + sub(1, "") + right,
		"48=" + sub(2, "") + right,
		"48=" + sub(1, wrappedKey(key)[1:]) + sub(2, checkOf(key)),
		"48=" + sub(1, strings.ToLower(wrappedKey("new kez."))+"") + sub(2, checkOf("new kez.")),
		"48=" + sub(1, wrappedKey(key)) + sub(2, "x"+checkOf(key)[1:]),
		"48=" + sub(1, wrappedKey(key)) + sub(2, checkOf(key)+"00"),
		"48=" + sub(1, wrappedKey(key)) + sub(2, checkOf(key)[:4]),
		"48=" + sub(1, wrappedKey(key+key)) + sub(2, checkOf(key+key)),
		"48=" + sub(1, wrappedKey(weak)) + sub(2, checkOf(weak)),
		"48=" + sub(11, wrappedKey(key)) + sub(12, checkOf(key)),
		"60=" + right,
	} {
		played(t, config(), openTill, `
			in till 0800 11=000001 `+s+` 70=101
			> till 0810 11=000001 39=81 70=101
			= till up ready held 0 queued 0 dead 0 keys 0`)
	}
	c := config()
	c.Links[2].Exchange = ""
	played(t, c, openTill, `
		in till 0800 11=000001 48=`+right+` 70=101
		> till 0810 11=000001 39=81 70=101`)
	played(t, c, openShop, `
		in shop 0800 11=000001 48=`+right+` 70=101
		> shop 0810 11=000001 39=81 70=101
		= shop up ready held 0 queued 0 dead 0 keys 0`)
}
