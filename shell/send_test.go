package shell_test

import (
	"fmt"
	"strings"
	"testing"

	"turnstile/api"
	"turnstile/seal"
)

// What `send` and `key` do over links with tags, and of what is refused.

// tagged is a message's bytes ahead of its tag, and that by a link's algorithm and a key, as it is told.
func tagged(t *testing.T, l api.Link, key, ahead string) string {
	t.Helper()
	tag, e := seal.Tag(l.MAC, l.Pad, key, ahead)
	if e != api.OK {
		t.Fatal("the test's key makes no tag")
	}
	return "128=$" + sixteenths(tag)
}

// tillSigns is the answer of till's sign-on as bytes ahead of its tag: its type, its bitmap, the fields 39 and 70.
const tillSigns = "\x08\x10\x80\x00\x00\x00\x02\x00\x00\x00\x04\x00\x00\x00\x00\x00\x00\x0100001"

func TestSendWithTags(t *testing.T) {
	c := config()
	told := "| > till 0810 39=00 70=001 " + tagged(t, c.Links[2], tillKey, tillSigns)
	for _, said := range []string{"", "128=$0102030405060708", "128=x", "128=$00", "128=12345678"} {
		plays(t, c, "up till\nsend till 0800 70=001 "+said+"\n"+told+"\nsend till 0800 "+said+" 70=001\n"+told)
	}
}

// TestFramesWithTags: a dialect in other encodings, of the other version; in EBCDIC all but the digits of fields.
func TestFramesWithTags(t *testing.T) {
	c := config()
	ahead := "\xF1\xF8\xF0\xF0" + ebcdic("82200000000000000400000000000001") + "\x11\x15\x12\x00\x00" + "\x00\x00\x01" + "\x00\x01"
	plays(t, c, "up vault\n| > vault 1800 7=1115120000 11=000001 70=001 "+tagged(t, c.Links[3], vaultKey, ahead)+"\nsend vault 1810 39=00 70=001\n"+`
		view
		| time 2026-11-15 12:00:00 ticks 0 pending 0 late 0
		| shop down off held 0 queued 0 dead 0 keys 0 0 0 0 0 0 0 0 0 0 0 0 0
		| bank down off held 0 queued 0 dead 0 keys 0 0 0 0 0 0 0 0 0 0 0 0 0
		| till down off held 0 queued 0 dead 0 keys 0 0 0 0 0 0 0 0 0 0 0 0 0
		| vault up ready held 0 queued 0 dead 0 keys 0 0 0 0 0 0 0 0 0 0 0 0 0`)
}

// ebcdic writes digits.
func ebcdic(digits string) string {
	b := []byte(digits)
	for i := range b {
		b[i] += 0xF0 - '0'
	}
	return string(b)
}

// TestKeys: what `send` makes tags with, from each `key` on.
func TestKeys(t *testing.T) {
	c := config()
	told := "| > till 0810 39=00 70=001 " + tagged(t, c.Links[2], tillKey, tillSigns)
	at := fmt.Sprint(len(tillSigns) - 2) // a request has no field 39
	plays(t, c, `
		key till `+sixteenths("another!")+`
		send till 0800 70=001
		| ? 243
		up till
		send till 0800 70=001
		| ! till 242 `+at+`
		key till `+sixteenths(tillKey)+`
		send till 0800 70=001
		`+told+`
		key till `+sixteenths("7 bytes")+`
		send till 0800 70=001
		| ? 30
		key till `+sixteenths("twice eight byte")+`
		key shop `+sixteenths(tillKey)+`
		key vault `+sixteenths(tillKey)+`
		send till 0800 70=001
		| ? 30
		send till 0800 70=x
		| ? 107
		send vault 1810 70=001
		| ? 30
		key vault `+sixteenths(vaultKey)+`
		send vault 1810 70=001
		| ? 243
		send till 0800 70=001
		| ? 30
		key till 00
		key till `+sixteenths(tillKey)+`
		send till 0800 70=001
		`+told+`
		send shop 0800 70=001
		| ? 243
		up shop
		key shop 00
		send shop 0800 70=001
		| > shop 0810 39=00 70=001`)
}

// TestNoTags: of a link without them the field is as it is said, whatever its dialect's MAC.
func TestNoTags(t *testing.T) {
	c := config()
	c.Links[0].Dialect = 1
	plays(t, c, `
		up shop
		send shop 0800 70=001
		| ? 108
		send shop 0800 70=001 128=x
		| ? 107
		send shop 0800 70=001 128=$00112233445566
		| ? 107
		send shop 0800 70=001 128=$0011223344556677
		| ! shop 108 128
		view
		| time 2026-11-15 12:00:00 ticks 0 pending 0 late 0
		| shop up ready held 0 queued 0 dead 0 keys 0 0 0 0 0 0 0 0 0 0 0 0 0
		| bank down off held 0 queued 0 dead 0 keys 0 0 0 0 0 0 0 0 0 0 0 0 0
		| till down off held 0 queued 0 dead 0 keys 0 0 0 0 0 0 0 0 0 0 0 0 0
		| vault down off held 0 queued 0 dead 0 keys 0 0 0 0 0 0 0 0 0 0 0 0 0`)
	plays(t, config(), docOpen+`
		send shop 0200 2=4111111111111111 4=000000000100 11=000010 128=$0011223344556677
		| > bank 0200 2=4111111111111111 4=000000000100 7=1115120000 11=000002 32=7 37=631912000002 128=$0011223344556677
		send shop 0200 2=4111111111111111 4=000000000100 11=000011 128=_the_tag
		| > bank 0200 2=4111111111111111 4=000000000100 7=1115120000 11=000003 32=7 37=631912000003 128=_the_tag
		send shop 0200 2=4111111111111111 4=000000000100 11=000012
		| > bank 0200 2=4111111111111111 4=000000000100 7=1115120000 11=000004 32=7 37=631912000004`)
}

// TestOrderOfFields: they are said in any order.
func TestOrderOfFields(t *testing.T) {
	for _, said := range []string{"2=4111111111111111 4=000000000100 7=1115115958 11=000010 41=the_till", "41=the_till 11=000010 7=1115115958 4=000000000100 2=4111111111111111", "11=000010 41=the_till 2=4111111111111111 7=1115115958 4=000000000100"} {
		plays(t, doc(), docOpen+"\nsend shop 0200 "+said+"\n| > bank 0200 2=4111111111111111 4=000000000100 7=1115120000 11=000002 32=7 37=631912000002 41=the_till")
	}
}

// TestSendRefused: what Build and Wrap refuse, and nothing comes.
func TestSendRefused(t *testing.T) {
	c := doc()
	c.Links[0].Most = 100
	most := "send shop 0200 2=4111111111111111 60=" // 4 bytes of the type, 16 of the bitmap, 18 of field 2, 3 of the length
	plays(t, c, `
		up shop
		`+most+strings.Repeat("x", 59)+`
		| ! shop 240 0
		`+most+strings.Repeat("x", 60)+`
		| ? 141
		`+most+strings.Repeat("x", 500)+`
		| ? 141
		`+most+strings.Repeat("x", 501)+`
		| ? 107
		send shop 0900 70=001
		| ? 110
		send shop 1800 70=001
		| ? 110
		send shop 0800 70=001 65=x
		| ? 102
		send shop 0800 0=x 70=001
		| ? 102
		send shop 0800 1=x 70=001
		| ? 102
		send shop 0800 129=x 70=001
		| ? 102
		send shop 0800 5=x 70=y
		| ? 102
		send shop 0800 70=y 71=x
		| ? 107
		waiting
		check
		| journal 2 `+sumOf(c, up(0), bytes(0, "01000200400000000000001016411111111111111105"+"9"+strings.Repeat("x", 59)))+` same`)
}
