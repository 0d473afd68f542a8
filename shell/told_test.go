package shell_test

import (
	"fmt"
	"strings"
	"testing"

	"turnstile/api"
)

// How what comes of events is told.

// signedOn is a bank that has signed on, and a shop.
const signedOn = docOpen

// asks is a request of shop with some fields more, and what goes to bank, under a number.
func asks(number int, more string) (send, told string) {
	stan := fmt.Sprintf("%06d", number)
	send = "send shop 0200 2=4111111111111111 4=000000000100 7=1115115958 11=000010 " + more
	return send, "| > bank 0200 2=4111111111111111 4=000000000100 7=1115120000 11=" + stan + " 32=7 37=631912" + stan
}

// TestValues: how each byte of a value is told, and what a `$` and a `_` do, said and told.
func TestValues(t *testing.T) {
	for said, told := range map[string]string{
		"TILL_001": "TILL_001", "_______x": "_______x", "x_______": "x_______", "________": "________", "$2020202020202020": "________", "$54494C4C20303031": "TILL_001",
		"$5F5F5F5F5F5F5F5F": "$5F5F5F5F5F5F5F5F", "$54494C4C5F303031": "$54494C4C5F303031", "$4162636465666768": "Abcdefgh", "$2462636465666768": "$2462636465666768",
		"$6263646566676824": "bcdefgh$", "a$$$$$$$": "a$$$$$$$", "$2323232323232323": "########", "========": "========", "~!\"%&'()": "~!\"%&'()", "(12.50)_": "(12.50)_",
	} {
		send, to := asks(2, "41="+said)
		plays(t, doc(), signedOn+"\n"+send+"\n"+to+" 41="+told)
	}
	for b := range 256 {
		value := string([]byte{byte(b)})
		hexed := "$" + sixteenths(value)
		told := hexed
		switch {
		case value == " ":
			told = "_"
		case b > 32 && b < 127 && value != "_" && value != "$":
			told = value
		}
		send, to := asks(2, "62="+hexed)
		plays(t, doc(), signedOn+"\n"+send+"\n"+to+" 62="+told)
		value = "ab" + value + "c"
		told = "$" + sixteenths(value)
		if b >= 32 && b < 127 && b != '_' {
			told = strings.ReplaceAll(value, " ", "_")
		}
		send, to = asks(2, "62=$"+sixteenths(value))
		plays(t, doc(), signedOn+"\n"+send+"\n"+to+" 62="+told)
		if b > 32 && b < 127 && b != '#' && b != '_' { // said as it is
			send, to = asks(2, "62="+value)
			plays(t, doc(), signedOn+"\n"+send+"\n"+to+" 62="+told)
		}
	}
}

// TestNodes: fields of the class T are told in sixteenths, whatever they hold; what is said of them may be no nodes.
func TestNodes(t *testing.T) {
	for said, told := range map[string]string{
		"55=$5A0141":                        "55=$5A0141",
		"55=$70055A03411111":                "55=$70055A03411111",
		"55=$9F02060000000012347000":        "55=$9F02060000000012347000",
		"55=$7005":                          "? 10",
		"55=$9F0206000000001234700050":      "? 10",
		"55=$5A818030":                      "? 10",
		"55=$00":                            "? 90",
		"55=$5A810130":                      "? 91",
		"55=$" + strings.Repeat("7000", 51): "? 107",
		"55=abc":                            "? 107",
		"55=5A0141":                         "? 107",
		"55=Z":                              "? 107",
		"48=$30313032414230333030":          "? 102",
		"55=$5A0141 60=$5A0A41":             "? 107",
		"60=Z_A":                            "60=Z_A",
		"60=$5A2041":                        "60=Z_A",
		"62=$5A0141":                        "62=$5A0141",
		"62=abc 60=abc":                     "60=abc 62=abc",
		"62=" + strings.Repeat("x", 500):    "62=" + strings.Repeat("x", 500),
	} {
		send, to := asks(2, said)
		if told[0] == '?' {
			to = "|"
		}
		plays(t, doc(), signedOn+"\n"+send+"\n"+to+" "+told)
	}
}

// TestSubElements: of the class S; that they could be told as they are changes nothing.
func TestSubElements(t *testing.T) {
	c := doc()
	c.Dialects[0] = plain()
	send, to := asks(2, "48=$"+sixteenths("0102AB0300"))
	plays(t, c, signedOn+"\n"+send+"\n"+to+" 48=$30313032414230333030")
	for said, want := range map[string]string{"0102AB0300": "? 107", "$" + sixteenths("01"): "? 10", "$" + sixteenths("0x"): "? 90", "$" + sixteenths("010x"): "? 91", "$" + sixteenths("0101\x7F"): "? 11", "$" + sixteenths("0101"): "? 10"} {
		send, _ := asks(2, "48="+said)
		plays(t, c, signedOn+"\n"+send+"\n| "+want)
	}
}

// TestFirstNodesThatAreWrong: by their numbers, ahead of all else that is wrong.
func TestFirstNodesThatAreWrong(t *testing.T) {
	c := doc()
	c.Dialects[0] = plain()
	for said, want := range map[string]string{
		"55=$00 48=$30": "? 10", "48=$3031 55=$00": "? 10", "48=$3078 55=$5A02": "? 90", "48=$30313030 55=$00": "? 90", "55=$00 2=x 999=1": "? 90", "2=x 48=$30": "? 10", "55=$5A00 2=x": "? 107", "48=x 55=$00": "? 90", "999=1 2=x": "? 107",
	} {
		plays(t, c, "send shop 0200 "+said+"\n| "+want+"\nsend shop 9999 "+said+"\n| "+map[bool]string{true: "? 110", false: want}[want == "? 107"])
	}
}

// TestAmounts: of each currency; behind all fields, if there is one.
func TestAmounts(t *testing.T) {
	for currency, told := range map[string]string{
		"840": " (12.50)", "978": " (12.50)", "392": " (1250)", "152": " (1250)", "048": " (1.250)", "788": " (1.250)", "000": "", "999": "", "643": "",
	} {
		plays(t, doc(), signedOn+`
			send shop 0200 2=4111111111111111 4=000000001250 7=1115115958 11=000010 41=the_till 49=`+currency+` 62=abc
			| > bank 0200 2=4111111111111111 4=000000001250 7=1115120000 11=000002 32=7 37=631912000002 41=the_till 49=`+currency+` 62=abc`+told)
	}
	for amount, told := range map[string]string{"000000000000": "0.00", "000000000001": "0.01", "000000000099": "0.99", "000000000100": "1.00", "000000001234": "12.34", "999999999999": "9999999999.99", "100000000000": "1000000000.00"} {
		plays(t, doc(), signedOn+`
			send shop 0200 2=4111111111111111 4=`+amount+` 7=1115115958 11=000010 49=840
			| > bank 0200 2=4111111111111111 4=`+amount+` 7=1115120000 11=000002 32=7 37=631912000002 49=840 (`+told+`)`)
	}
	plays(t, doc(), signedOn+`
		send shop 0220 2=4111111111111111 11=000010 49=840
		| > bank 0220 2=4111111111111111 7=1115120000 11=000002 32=7 37=631912000002 49=840
		| > shop 0230 2=4111111111111111 11=000010 39=00 49=840
		send shop 0200 2=4111111111111111 4=000000000001 11=000011
		| > bank 0200 2=4111111111111111 4=000000000001 7=1115120000 11=000003 32=7 37=631912000003
		send bank 0210 4=000000000001 11=000003 39=00 49=978
		| > shop 0210 4=000000000001 11=000011 39=00 49=978 (0.01)`)
}

// TestHeaders: of each kind of header, both ways, in frames that are said byte by byte.
func TestHeaders(t *testing.T) {
	sign := "0800822000000000000004000000000000001115115900000009001"
	for header, head := range map[int]string{api.HeadTwo: "0037", api.HeadFour: sixteenths("0055"), api.HeadBCD: "0055", api.HeadWhole: "0039"} {
		c := doc()
		c.Links[0].Header = header
		plays(t, c, `
			up shop
			bytes shop `+head+sixteenths(sign)+`
			| > shop 0810 7=1115115900 11=000009 39=00 70=001
			bytes shop `+head+sixteenths(sign)+head+sixteenths(sign)+`
			| > shop 0810 7=1115115900 11=000009 39=00 70=001
			| > shop 0810 7=1115115900 11=000009 39=00 70=001
			bytes shop `+head[:2]+`
			bytes shop `+head[2:]+sixteenths(sign[:9])+`
			view
			| time 2026-11-15 12:00:00 ticks 0 pending 0 late 0
			| shop up ready held `+fmt.Sprint(len(head)/2+9)+` queued 0 dead 0 keys 0 0 0 0 0 0 0 0 0 0 0 0 0
			| bank down off held 0 queued 0 dead 0 keys 0 0 0 0 0 0 0 0 0 0 0 0 0
			bytes shop `+sixteenths(sign[9:])+`
			| > shop 0810 7=1115115900 11=000009 39=00 70=001`)
	}
}

// TestRefusalsAndEnds: outputs that are no frames, in their order.
func TestRefusalsAndEnds(t *testing.T) {
	c := doc()
	c.Links[1].Echo, c.Links[1].Answer = 1, 1
	plays(t, c, `
		up bank
		| > bank 0800 7=1115120000 11=000001 70=001
		send bank 0810 39=00 70=001
		tick 4
		| > bank 0800 7=1115120001 11=000002 70=301
		| > bank 0800 7=1115120002 11=000003 70=301
		| > bank 0800 7=1115120003 11=000004 70=301
		| x bank 160
		down bank
		| ? 243
		up shop
		bytes shop `+sixteenths("00040900"+"0000"+"0005abcde"+"99")+`
		| ! shop 121 0
		| ! shop 121 0
		bytes shop `+sixteenths("99")+`
		| x shop 141
		up shop
		bytes shop `+sixteenths("0020"+"08000000000000000000"+"0001x"+"xxxx"+"0001x")+`
		| > shop 0810 39=12
		| ! shop 120 1
		| x shop 140
		bytes shop 00
		| ? 243
		send shop 0800
		| ? 243
		send shop 0800 70=x
		| ? 107`)
}
