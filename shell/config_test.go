package shell_test

import (
	"fmt"
	"math/rand"
	"slices"
	"strings"
	"testing"

	"turnstile/api"
)

// short is a small configuration that has each kind of line; its lines stand as they must.
const short = `dialect one 0 ascii ascii 64
field 2 n ascii var 2 ascii 19
field 3 n bcd fixed 6
field 64 b binary fixed 8
rule 0200 must 2 3 64 may
rule 0800 must 64 may 2
dialect two 1 bcd binary 0
field 2 n ebcdic var 4 binary 19
rule 1200 must may
link shop acquirer one four 999 7
tags 1 1 0123456789ABCDEF -
wait 0 2
link bank issuer two two 999 8
pin 00112233445566778899AABBCCDDEEFF
wait 50 3
group gold 5000 2 8000 60 bank
route 4 gold
start 2026-11-15 12:00:00
table 2 5 10 3 999999
queue 6 4 7
`

// wantShort is what it says, written by hand.
func wantShort() api.Config {
	return api.Config{
		Dialects: []api.Dialect{
			{Name: "one", MTIEnc: 1, MapEnc: 1, MAC: 64, Fields: []api.FieldSpec{
				{Number: 2, Class: 1, Enc: 1, Digits: 2, LenEnc: 1, Size: 19},
				{Number: 3, Class: 1, Enc: 2, Size: 6},
				{Number: 64, Class: 5, Enc: 5, Size: 8},
			}, Rules: []api.Rule{{MTI: "0200", Must: []int{2, 3, 64}}, {MTI: "0800", Must: []int{64}, May: []int{2}}}},
			{Name: "two", Version: 1, MTIEnc: 2, MapEnc: 5, Fields: []api.FieldSpec{{Number: 2, Class: 1, Enc: 4, Digits: 4, LenEnc: 5, Size: 19}}, Rules: []api.Rule{{MTI: "1200"}}},
		},
		Links: []api.Link{
			{Name: "shop", Role: 1, Header: 2, Most: 999, ID: "7", MAC: 1, Pad: 1, Key: "\x01\x23\x45\x67\x89\xAB\xCD\xEF", Answer: 2},
			{Name: "bank", Role: 2, Dialect: 1, Header: 1, Most: 999, ID: "8", PIN: "\x00\x11\x22\x33\x44\x55\x66\x77\x88\x99\xAA\xBB\xCC\xDD\xEE\xFF", Echo: 50, Answer: 3},
		},
		Groups: []api.Group{{Name: "gold", Links: []int{1}, Standin: api.Limits{Single: 5000, Count: 2, Sum: 8000, Window: 60}}},
		Routes: []api.Route{{Prefix: "4"}},
		Start:  848059200, Pending: 2, Timeout: 5, Late: 10, Cards: 3, Numbers: 999999, Queue: 6, Retry: 4, Tries: 7,
	}
}

func TestShort(t *testing.T) { reads(t, "the short configuration", short, wantShort()) }

// TestAllNames: of encodings, classes, roles and headers, each with its number.
func TestAllNames(t *testing.T) {
	c := wantShort()
	c.Dialects = append(c.Dialects, api.Dialect{Name: "all", MTIEnc: 4, MapEnc: 4, Fields: []api.FieldSpec{
		{Number: 100, Class: 1, Enc: 2, Size: 5},
		{Number: 101, Class: 2, Enc: 1, Size: 5},
		{Number: 102, Class: 3, Enc: 4, Size: 5},
		{Number: 103, Class: 4, Enc: 1, Digits: 1, LenEnc: 2, Size: 5},
		{Number: 104, Class: 5, Enc: 5, Digits: 2, LenEnc: 4, Size: 5},
		{Number: 105, Class: 6, Enc: 3, Digits: 3, LenEnc: 5, Size: 5},
		{Number: 106, Class: 7, Enc: 1, Digits: 4, LenEnc: 1, Size: 5},
		{Number: 107, Class: 8, Enc: 5, Digits: 4, LenEnc: 1, Size: 9999},
		{Number: 108, Class: 9, Enc: 1, Digits: 4, LenEnc: 1, Size: 9999},
	}})
	for i, role := range []int{2, 1, 2, 1} {
		c.Links = append(c.Links, api.Link{Name: fmt.Sprint("l-", i), Role: role, Dialect: 2, Header: i + 1, Most: 1, ID: "0", Answer: 1})
	}
	text := changed(t, short, "link shop", `dialect all 0 ebcdic ebcdic 0
field 100 n bcd fixed 5
field 101 a ascii fixed 5
field 102 an ebcdic fixed 5
field 103 ans ascii var 1 bcd 5
field 104 b binary var 2 ebcdic 5
field 105 z bcdr var 3 binary 5
field 106 x ascii var 4 ascii 5
field 107 t binary var 4 ascii 9999
field 108 s ascii var 4 ascii 9999
link shop`)
	text = changed(t, text, "group", `link l-0 issuer all two 1 0
wait 0 1
link l-1 acquirer all four 1 0
wait 0 1
link l-2 issuer all bcd 1 0
wait 0 1
link l-3 acquirer all whole 1 0
wait 0 1
group`)
	reads(t, "all names", text, c)
}

func TestLines(t *testing.T) {
	c := wantShort()
	reads(t, "no line feed at the end", strings.TrimSuffix(short, "\n"), c)
	reads(t, "lines without words", "\n  \n"+strings.ReplaceAll(short, "\n", "\n\n   \n")+"\n \n\n", c)
	reads(t, "blanks", "  "+strings.ReplaceAll(strings.ReplaceAll(short, " ", "   "), "\n", "  \n "), c)
	reads(t, "remarks", "# a remark\n#\n ##\n"+strings.ReplaceAll(short, "\n", "# of \t\x00\x7F\xFF\r any bytes # and more\n")+"#", c)
	at := lineOf(t, short, "wait")
	for b := range 256 {
		s := string([]byte{byte(b)})
		if b != '\n' {
			reads(t, fmt.Sprintf("a remark of the byte %d", b), changed(t, short, "wait 0 2", "wait 0 2 #"+s), c)
		}
		switch {
		case b == ' ' || b == '#':
			reads(t, fmt.Sprintf("the byte %d behind words", b), changed(t, short, "wait 0 2", "wait 0 2"+s), c)
		case b == '\n':
			reads(t, fmt.Sprintf("the byte %d behind words", b), changed(t, short, "wait 0 2", "wait 0 2"+s), c)
			refuses(t, "a line feed between words", changed(t, short, "wait 0 2", "wait 0"+s+"2"), api.ErrScript, at)
		case '0' <= b && b <= '9': // a longer number
			c := wantShort()
			c.Links[0].Answer = 20 + b - '0'
			reads(t, fmt.Sprintf("the byte %d behind words", b), changed(t, short, "wait 0 2", "wait 0 2"+s), c)
		default:
			refuses(t, fmt.Sprintf("the byte %d behind words", b), changed(t, short, "wait 0 2", "wait 0 2"+s), api.ErrScript, at)
			refuses(t, fmt.Sprintf("the byte %d ahead of words", b), changed(t, short, "wait 0 2", s+"wait 0 2"), api.ErrScript, at)
			refuses(t, fmt.Sprintf("the byte %d between words", b), changed(t, short, "wait 0 2", "wait 0 "+s+" 2"), api.ErrScript, at)
			refuses(t, fmt.Sprintf("the byte %d ahead of a remark", b), changed(t, short, "wait 0 2", "wait 0 2 "+s+"# yes"), api.ErrScript, at)
			refuses(t, fmt.Sprintf("the byte %d alone", b), changed(t, short, "wait 0 2", "wait 0 2\n"+s), api.ErrScript, at+1)
		}
	}
}

func TestHowLong(t *testing.T) {
	c := wantShort()
	room := 100000 - len(short)
	reads(t, "100000 bytes", short+strings.Repeat("#", room), c)
	reads(t, "100000 bytes, most of them line feeds", strings.Repeat("\n", room)+short, c)
	refuses(t, "100001 bytes", short+strings.Repeat("#", room+1), api.ErrLong, 0)
	refuses(t, "100001 bytes of nothing", strings.Repeat("x", 100001), api.ErrLong, 0)
	refuses(t, "100000 bytes of nothing", strings.Repeat("x", 100000), api.ErrScript, 1)
	refuses(t, "100000 line feeds", strings.Repeat("\n", 100000), api.ErrScript, 100001)
	refuses(t, "no bytes", "", api.ErrScript, 1)
	refuses(t, "a line feed", "\n", api.ErrScript, 2)
	refuses(t, "two lines", "\n#", api.ErrScript, 3)
	refuses(t, "two lines, ended", "\n#\n", api.ErrScript, 3)
}

// TestWrongLines: lines in the place of right ones.
func TestWrongLines(t *testing.T) {
	for line, wrong := range map[string][]string{
		"dialect two 1": {"dialect two", "dialect two 1 bcd binary", "dialect two 1 bcd binary 0 0", "dialect Two 1 bcd binary 0", "dialect 12345678901234567 1 bcd binary 0", "dialect t_o 1 bcd binary 0",
			"dialect two 01 bcd binary 0", "dialect two -1 bcd binary 0", "dialect two 1 n binary 0", "dialect two 1 bcd none 0", "dialect two 1 1 5 0", "dialect two 1 BCD binary 0", "Dialect two 1 bcd binary 0", "dialects two 1 bcd binary 0"},
		"field 3": {"field 3 n bcd fixed", "field 3 n bcd 6", "field 3 n bcd fixed 6 6", "field 3 n bcd fix 6", "field 3 bcd n fixed 6", "field 3 ascii ascii fixed 6", "field 3 n n fixed 6", "field 03 n bcd fixed 6",
			"field 3 n bcd fixed 06", "field 3 n bcd var 6", "field 3 n bcd var 2 6", "field 3 n bcd var ascii 2 6", "field 3 n bcd var 2 n 6", "field 3 n bcd var 2 ascii 6 6", "field 3 n bcd fixed 2 ascii 6", "field 1000000000000 n bcd fixed 6", "field"},
		"rule 0800": {"rule 0800", "rule 0800 must 64", "rule 0800 may 2", "rule 0800 64 may 2", "rule 800 must 64 may 2", "rule 00800 must 64 may 2", "rule 080x must 64 may 2", "rule 0800 must 064 may 2", "rule 0800 must 64 may 02",
			"rule 0800 must 64 x may 2", "rule 0800 may 2 must 64", "rule 0800 must 64 may 2 must", "rule 0800 must must 64 may 2", "rule 0800 must 64 may may", "rule 0800 Must 64 may 2", "rule must 64 may 2"},
		"link bank": {"link bank issuer two two 999", "link bank issuer two two 999 8 8", "link Bank issuer two two 999 8", "link bank bank two two 999 8", "link bank 2 two two 999 8", "link bank issuer three two 999 8",
			"link bank issuer two three 999 8", "link bank issuer two ascii 999 8", "link bank issuer two two 0999 8", "link bank issuer two two 999 x", "link bank issuer two two 999 -8", "link bank issuer TWO two 999 8", "link"},
		"tags": {"tags 1 1 0123456789ABCDEF", "tags 1 1 - -", "tags 1 1 0123456789ABCDEF -- ", "tags 1 1 0123456789ABCDEF - -", "tags 1 1 0123456789ABCDE -", "tags 1 1 0123456789abcdef -", "tags 1 1 0123456789ABCDEF 0", "tags 1 1 0123456789ABCDEF -0",
			"tags 01 1 0123456789ABCDEF -", "tags 1 01 0123456789ABCDEF -", "tags 1 0123456789ABCDEF -", "tags x 1 0123456789ABCDEF -", "tags 1 1 $0123456789ABCDEF -"},
		"pin":  {"pin", "pin -", "pin 0", "pin 00112233445566778899AABBCCDDEEF", "pin 00112233445566778899AABBCCDDEEfF", "pin 0011223344556677 8899AABBCCDDEEFF"},
		"wait": {"wait", "wait 0", "wait 0 2 3", "wait 00 2", "wait 0 02", "wait x 2", "wait 0 x", "wait 0 -", "wait 0 2.0", "wait 0 1000000000000"},
		"group": {"group gold 5000 2 8000 60", "group gold 5000 2 8000 bank", "group Gold 5000 2 8000 60 bank", "group gold 5000 2 8000 60 bank band", "group gold 5000 2 8000 60 nobody", "group gold 5000 2 8000 60 1", "group gold 05000 2 8000 60 bank",
			"group gold 5000 2 8000 60 BANK", "group gold 5000 2 8000 60 two", "group 5000 2 8000 60 bank", "group gold 5000 2 8000000000000 60 bank"},
		"route": {"route", "route 4", "route gold", "route 4 gold gold", "route x gold", "route 4x gold", "route -4 gold", "route 4 silver", "route 4 bank", "route 4 Gold", "route gold 4"},
		"start": {"start", "start 2026-11-15", "start 2026-11-15 12:00", "start 2026-11-15 12:00:00 0", "start 2026-11-15T12:00:00", "start 12:00:00 2026-11-15", "start 2026-11-31 12:00:00", "start 2026-02-29 12:00:00", "start 2026-00-15 12:00:00",
			"start 2026-13-15 12:00:00", "start 2026-11-00 12:00:00", "start 2026-11-15 24:00:00", "start 2026-11-15 12:60:00", "start 2026-11-15 12:00:60", "start 1999-12-31 23:59:59", "start 2100-01-01 00:00:00", "start 26-11-15 12:00:00",
			"start 2026-1-15 12:00:00", "start 2026-11-15 1:00:00", "start 2026/11/15 12:00:00", "start 2026-11-15 12.00.00", "start 2026-11-1x 12:00:00", "start 2026-11-15 0x:00:00", "start 2026-11-15 12:00:0x", "start 02026-11-15 12:00:00",
			"start 2026-11-15 12:00:000", "start 2026-11-15 1x:00:00", "start 2026x11-15 12:00:00", "start +026-11-15 12:00:00", "start 848059200", "start 2026-11-15 -2:00:00", "start 2026-11-1 512:00:00"},
		"table":       {"table", "table 2 5 10 3", "table 2 5 10 3 999999 1", "table 02 5 10 3 999999", "table 2 5 10 3 x", "table 2 5 10 3 0999999"},
		"queue":       {"queue", "queue 2 4", "queue 2 4 2 2", "queue 2 4 02", "queue 2 4 x", "queue -2 4 2"},
		"dialect one": {"", "go", "end", "up shop", "0", "-", "dialect-one", "view"},
	} {
		at := lineOf(t, short, line)
		full := strings.Split(short, "\n")[at-1]
		for _, w := range wrong {
			if line == "dialect one" { // a line more
				want := at
				if w == "" {
					continue
				}
				refuses(t, w, changed(t, short, full, w+"\n"+full), api.ErrScript, want)
				refuses(t, w, short+w, api.ErrScript, 21)
				continue
			}
			refuses(t, w, changed(t, short, full, w), api.ErrScript, at)
			refuses(t, w+", and a remark", changed(t, short, full, w+"#"), api.ErrScript, at)
		}
	}
}

// TestMomentsThatThereAre: the edges of Start.
func TestMomentsThatThereAre(t *testing.T) {
	for s, at := range map[string]int{"2000-01-01 00:00:00": 0, "2099-12-31 23:59:59": 3155759999, "2024-02-29 12:34:56": 762525296, "2026-11-15 13:05:00": 848063100} {
		c := wantShort()
		c.Start = at
		reads(t, s, changed(t, short, "2026-11-15 12:00:00", s), c)
	}
}

// TestNumbersAsTheyAre: up to twelve digits; whether they may be, route.Right says.
func TestNumbersAsTheyAre(t *testing.T) {
	c := wantShort()
	c.Groups[0].Standin = api.Limits{Single: 999999999999, Sum: 999999999999, Window: 1}
	reads(t, "twelve digits", changed(t, short, "5000 2 8000 60", "999999999999 0 999999999999 1"), c)
	refuses(t, "twelve digits of a window", changed(t, short, "8000 60", "8000 999999999999"), api.ErrGroup, 0)
	refuses(t, "twelve digits of a version", changed(t, short, "two 1 bcd", "two 999999999999 bcd"), api.ErrVersion, 0)
	c = wantShort()
	c.Links[0].ID, c.Routes[0].Prefix = "00000000000", "00000000004"
	reads(t, "digits with noughts ahead", changed(t, changed(t, short, "999 7", "999 00000000000"), "route 4", "route 00000000004"), c)
	refuses(t, "many digits of an ID", changed(t, short, "999 7", "999 "+strings.Repeat("7", 1000)), api.ErrLink, 0)
	refuses(t, "many digits of a prefix", changed(t, short, "route 4", "route "+strings.Repeat("4", 1000)), api.ErrPrefix, 0)
	c = wantShort()
	c.Links[0].Name, c.Groups[0].Name = "abcdefghijklmnop", "0-9---qrstuvwxyz"
	reads(t, "names of 16", changed(t, changed(t, changed(t, short, "link shop", "link abcdefghijklmnop"), "group gold", "group 0-9---qrstuvwxyz"), "4 gold", "4 0-9---qrstuvwxyz"), c)
}

// TestWhereLinesStand: what must stand ahead, and what once.
func TestWhereLinesStand(t *testing.T) {
	l := strings.SplitAfter(strings.TrimSuffix(short, "\n"), "\n")
	l[len(l)-1] += "\n"
	move := func(from, to int) string { // the line of a number ahead of that of another
		rest := slices.Delete(slices.Clone(l), from-1, from)
		return strings.Join(slices.Insert(rest, to-1, l[from-1]), "")
	}
	for what, x := range map[string]struct {
		text string
		n    int
	}{
		"a field ahead of all dialects":  {move(2, 1), 1},
		"a rule ahead of all dialects":   {move(5, 1), 1},
		"tags ahead of all links":        {move(11, 10), 10},
		"a PIN key ahead of all links":   {move(14, 10), 10},
		"a wait ahead of all links":      {move(12, 1), 1},
		"a link ahead of its dialect":    {move(13, 7), 7},
		"a group ahead of its link":      {move(16, 13), 13},
		"a route ahead of its group":     {move(17, 16), 16},
		"tags twice":                     {changed(t, short, l[10], l[10]+l[10]), 12},
		"tags twice, not at once":        {changed(t, short, l[11], l[11]+l[10]), 13},
		"a PIN key twice":                {changed(t, short, l[14], l[14]+l[13]), 16},
		"a wait twice":                   {changed(t, short, l[14], l[14]+l[14]), 16},
		"a wait twice, much behind":      {short + l[14], 21},
		"a start twice":                  {short + l[17], 21},
		"a table twice":                  {short + l[18], 21},
		"a queue twice":                  {short + l[19], 21},
		"a queue twice, another one":     {"queue 1 1 1\n" + short, 21},
		"no start":                       {changed(t, short, l[17], ""), 20},
		"no table":                       {changed(t, short, l[18], ""), 20},
		"no queue":                       {changed(t, short, l[19], ""), 20},
		"neither start nor queue":        {changed(t, changed(t, short, l[17], ""), l[19], ""), 19},
		"no start, and a link that's no": {changed(t, changed(t, short, l[17], "\n"), "999 8", "0 8"), 21},
		"nothing but those":              {l[17] + l[18], 3},
	} {
		refuses(t, what, x.text, api.ErrScript, x.n)
	}
	c := wantShort()
	for what, text := range map[string]string{
		"numbers of the whole ahead of all":        l[17] + l[19] + l[18] + strings.Join(l[:17], ""),
		"lines of a link far behind it":            strings.Join(l[:13], "") + strings.Join(l[15:], "") + l[14] + l[13],
		"lines of a link the other way":            changed(t, changed(t, short, l[10]+l[11], l[11]+l[10]), l[13]+l[14], l[14]+l[13]),
		"rules ahead of fields":                    changed(t, short, l[1]+l[2]+l[3]+l[4]+l[5], l[4]+l[5]+l[1]+l[2]+l[3]),
		"fields of the last dialect far behind it": strings.Join(l[:7], "") + strings.Join(l[9:], "") + l[7] + l[8],
	} {
		reads(t, what, text, c)
	}
	refuses(t, "nothing but start, table, queue", l[17]+l[18]+l[19], api.ErrMany, 0)
	refuses(t, "a link without a wait", changed(t, short, l[14], ""), api.ErrLink, 0)
}

// TestFirstOfANameCounts: though there may be no second one, where another error is ahead of that one it shows that it does.
func TestFirstOfANameCounts(t *testing.T) {
	refuses(t, "two dialects of a name", changed(t, short, "dialect two 1 bcd", "dialect one 1 bcd"), api.ErrScript, 13) // two is not there then
	text := changed(t, short, "link shop", "dialect one 0 ascii ascii 0\nlink shop")
	refuses(t, "three dialects of two names", text, api.ErrName, 0)
	text = changed(t, short, "link bank", "link shop")
	refuses(t, "two links of a name", changed(t, text, "60 bank", "60 shop"), api.ErrLink, 0)
	text = changed(t, short, "route", "group gold 1 1 1 1 bank\nroute")
	refuses(t, "two groups of a name", text, api.ErrGroup, 0)
}

// TestRightIsAsked: its error comes, and 0.
func TestRightIsAsked(t *testing.T) {
	for _, x := range []struct {
		from, to string
		e        api.Errno
	}{
		{"one 0 ascii", "one 2 ascii", api.ErrVersion}, {"one 0 ascii ascii 64", "one 0 ascii ascii 0", api.ErrMAC}, {"field 3 n", "field 2 n", api.ErrField},
		{"field 3 n bcd fixed 6", "field 3 n bcdr fixed 6", api.ErrClass}, {"fixed 6", "fixed 0", api.ErrSize}, {"var 2 ascii 19", "var 0 ascii 19", api.ErrSize}, {"fixed 6", "fixed 7", api.ErrClass},
		{"rule 0800", "rule 0900", api.ErrRule}, {"rule 0800 must 64 may 2", "rule 0800 must 64 may 64", api.ErrRule}, {"999 7", "0 7", api.ErrLink}, {"tags 1 1", "tags 2 1", api.ErrLink}, {"tags 1 1", "tags 0 0", api.ErrLink},
		{"CDEF -", "CDEF 00", api.ErrLink}, {"pin 00", "pin ", api.ErrLink}, {"wait 50 3", "wait 50 0", api.ErrLink}, {"60 bank", "60 shop", api.ErrGroup}, {"60 bank", "60 bank bank", api.ErrGroup}, {"8000 60", "8000 0", api.ErrGroup},
		{"route 4", "route 444444444444", api.ErrPrefix}, {"route 4 gold\n", "route 4 gold\nroute 4 gold\n", api.ErrPrefix}, {"table 2", "table 0", api.ErrConfig}, {"999999", "1000000", api.ErrConfig}, {"queue 6 4 7", "queue 6 4 101", api.ErrConfig},
	} {
		refuses(t, x.to, changed(t, short, x.from, x.to), x.e, 0)
	}
}

// oddWords are such as may stand for another one.
var oddWords = []string{"0", "00", "1", "01", "2", "3", "64", "128", "999999999999", "1000000000000", "-1", "+1", "1.0", "x", "-", "--", "A", "AB", "ab", "ABC", "ascii", "bcd", "bcdr", "ebcdic", "binary", "n", "a", "an", "ans", "b", "z", "t", "s",
	"fixed", "var", "must", "may", "acquirer", "issuer", "two", "four", "whole", "shop", "bank", "gold", "one", "0200", "0800", "1200", "02000", "2026-11-15", "12:00:00", "2000-01-01", "#", "#x", "x#", "\t", "\r", "\x7F", "\xFF", "\x00", "_", "$AB", "\n"}

// TestEachWord: each word of each line, with another one in its place, ahead of it, or left out, against the second reading.
func TestEachWord(t *testing.T) {
	lines := strings.Split(strings.TrimSuffix(short, "\n"), "\n")
	seen := map[api.Errno]int{}
	for i, s := range lines {
		words := strings.Split(s, " ")
		for k := range words {
			try := func(what string, to ...string) {
				l := slices.Clone(lines)
				l[i] = strings.Join(slices.Concat(words[:k], to, words[k+1:]), " ")
				seen[holds(t, fmt.Sprintf("line %d, word %d: %s", i+1, k, what), strings.Join(l, "\n"))]++
			}
			try("left out")
			for _, w := range oddWords {
				try("in its place `"+w+"`", w)
				try("ahead of it `"+w+"`", w, words[k])
				try("behind it `"+w+"`", words[k], w)
				try("at it `"+w+"`", words[k]+w)
			}
		}
	}
	for _, e := range []api.Errno{api.OK, api.ErrScript, api.ErrLink, api.ErrField, api.ErrClass, api.ErrSize, api.ErrRule, api.ErrGroup, api.ErrConfig, api.ErrVersion, api.ErrMAC} {
		if seen[e] < 10 {
			t.Errorf("the test saw %s only %d times", nameOf(e), seen[e])
		}
	}
}

// TestEachByteOfWords: of words of each kind, against the second reading.
func TestEachByteOfWords(t *testing.T) {
	for _, x := range []struct{ from, ahead, behind string }{
		{"link shop", "link sh", "p"}, {"link shop", "link ", ""}, {"999 7", "999 ", ""}, {"999 7", "999 7", "7"}, {"route 4", "route 4", "4"}, {"rule 0200", "rule 02", "0"}, {"rule 0200", "rule ", "200"},
		{"wait 0 2", "wait 0 2", "2"}, {"wait 0 2", "wait 0 ", ""}, {"wait 0 2", "wait 0 ", "2"}, {"pin 00", "pin 0", ""}, {"pin 00", "pin ", "0"}, {"CDEF -", "CDEF ", ""}, {"12:00:00", "12:00:0", ""}, {"12:00:00", "12", "00:00"},
		{"2026-11", "2026", "11"}, {"2026-11", "202", "-11"}, {"2026-11", "2026-", "1"}, {"field 3 n", "field 3 ", ""}, {"fixed 6", "fixe", " 6"}, {"issuer", "issue", ""}, {"bank issuer two two", "bank issuer two tw", ""},
	} {
		for b := range 256 {
			text := changed(t, short, x.from, x.ahead+string([]byte{byte(b)})+x.behind)
			holds(t, fmt.Sprintf("the byte %d behind `%s`", b, x.ahead), text)
			runsAs(t, text+"go\n")
		}
	}
	for _, x := range [][2]string{{"up sho", ""}, {"up ", "hop"}, {"tick ", ""}, {"tick 1", "1"}, {"bytes shop 0", ""}, {"bytes shop ", "0"}, {"send shop 020", ""}, {"send shop ", "200"}, {"send shop 0200 ", "=1"}, {"send shop 0200 1", "=1"}, {"send shop 0200 1", "1"},
		{"send shop 0200 2=", ""}, {"send shop 0200 2=4", "4"}, {"send shop 0200 2=$4", ""}, {"send shop 0200 2=$", "4"}, {"send shop 0200 2=$41", "41"}, {"key shop ", "0"}, {"key shop 0", ""}, {"vie", ""}, {"view", ""}} {
		for b := range 256 {
			runsAs(t, head+"up shop\n"+x[0]+string([]byte{byte(b)})+x[1])
		}
	}
}

// TestMixedLines: lines that are moved, left out, said again and changed, against the second reading.
func TestMixedLines(t *testing.T) {
	r := rand.New(rand.NewSource(2501))
	seen := map[api.Errno]int{}
	texts := []string{printed(doc()), printed(config())}
	for n := range 30000 {
		l := strings.Split(strings.TrimSuffix(short, "\n"), "\n")
		if n%10 == 0 {
			l = strings.Split(strings.TrimSuffix(texts[r.Intn(2)], "\n"), "\n")
		}
		for range r.Intn(4) {
			at := r.Intn(len(l))
			switch r.Intn(6) {
			case 0:
				l = slices.Delete(l, at, at+1)
			case 1:
				l = slices.Insert(l, r.Intn(len(l)), l[at])
			case 2:
				to := r.Intn(len(l))
				l[at], l[to] = l[to], l[at]
			case 3:
				words := strings.Split(l[at], " ")
				words[r.Intn(len(words))] = oddWords[r.Intn(len(oddWords))]
				l[at] = strings.Join(words, " ")
			case 4:
				l[at] += []string{" # said", "   ", "\n", "#\t\x00", "\n\n#\n"}[r.Intn(5)]
			case 5:
				b := []byte(l[at] + " ")
				b[r.Intn(len(b))] = byte(r.Intn(256))
				l[at] = string(b)
			}
			if len(l) == 0 {
				break
			}
		}
		seen[holds(t, "mixed lines", strings.Join(l, "\n"))]++
	}
	for _, e := range []api.Errno{api.OK, api.ErrScript, api.ErrLink, api.ErrField, api.ErrClass, api.ErrRule, api.ErrMAC} {
		if seen[e] < 10 {
			t.Errorf("the test saw %s only %d times", nameOf(e), seen[e])
		}
	}
}
