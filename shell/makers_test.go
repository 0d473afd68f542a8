package shell_test

import (
	"encoding/hex"
	"fmt"
	"reflect"
	"slices"
	"strconv"
	"strings"
	"testing"
	"time"

	"turnstile/api"
	"turnstile/core"
	"turnstile/shell"
)

// Configurations, their texts (written another way), and scripts that are played with both stacks.

// names are those of errors in lines of tests.
var names = map[api.Errno]string{
	api.OK: "OK", api.ErrArg: "ErrArg", api.ErrMany: "ErrMany", api.ErrName: "ErrName", api.ErrVersion: "ErrVersion", api.ErrField: "ErrField",
	api.ErrClass: "ErrClass", api.ErrSize: "ErrSize", api.ErrRule: "ErrRule", api.ErrMAC: "ErrMAC", api.ErrLong: "ErrLong", api.ErrPrefix: "ErrPrefix",
	api.ErrGroup: "ErrGroup", api.ErrLink: "ErrLink", api.ErrConfig: "ErrConfig", api.ErrScript: "ErrScript",
}

func nameOf(e api.Errno) string {
	if s, ok := names[e]; ok {
		return s
	}
	return strconv.Itoa(int(e))
}

// spec is a right spec: of the class T or B in bytes, else in ASCII.
func spec(number, class, digits, size int) api.FieldSpec {
	s := api.FieldSpec{Number: number, Class: class, Enc: api.ASCII, Digits: digits, Size: size}
	if class == api.ClassB || class == api.ClassT {
		s.Enc = api.BINARY
	}
	if digits > 0 {
		s.LenEnc = api.ASCII
	}
	return s
}

// specs are all known fields, and one of each other class.
func specs() []api.FieldSpec {
	return []api.FieldSpec{
		spec(2, api.ClassN, 2, 19), spec(3, api.ClassN, 0, 6), spec(4, api.ClassN, 0, 12), spec(7, api.ClassN, 0, 10), spec(11, api.ClassN, 0, 6),
		spec(12, api.ClassN, 0, 6), spec(13, api.ClassN, 0, 4), spec(14, api.ClassN, 0, 4), spec(22, api.ClassAN, 0, 3), spec(25, api.ClassN, 0, 2),
		spec(28, api.ClassX, 0, 9), spec(32, api.ClassN, 2, 11), spec(35, api.ClassZ, 2, 37), spec(37, api.ClassAN, 0, 12), spec(38, api.ClassAN, 0, 6),
		spec(39, api.ClassAN, 0, 2), spec(41, api.ClassANS, 0, 8), spec(42, api.ClassANS, 0, 15), spec(43, api.ClassA, 1, 9), spec(48, api.ClassS, 3, 200),
		spec(49, api.ClassN, 0, 3), spec(52, api.ClassB, 0, 8), spec(55, api.ClassT, 3, 100), spec(60, api.ClassANS, 3, 500), spec(62, api.ClassB, 3, 500),
		spec(66, api.ClassN, 0, 1), spec(70, api.ClassN, 0, 3), spec(74, api.ClassN, 0, 10), spec(75, api.ClassN, 0, 10), spec(76, api.ClassN, 0, 10),
		spec(77, api.ClassN, 0, 10), spec(86, api.ClassN, 0, 16), spec(87, api.ClassN, 0, 16), spec(88, api.ClassN, 0, 16), spec(89, api.ClassN, 0, 16),
		spec(90, api.ClassN, 0, 42), spec(128, api.ClassB, 0, 8),
	}
}

// allTypes are those of a version, without it.
var allTypes = strings.Fields("100 101 110 120 121 130 200 201 210 220 221 230 420 421 430 500 501 510 800 801 810")

// rulesOf let all types have all fields; must: those that each must have.
func rulesOf(version int, all []api.FieldSpec, must ...int) []api.Rule {
	var may []int
	for _, s := range all {
		if !slices.Contains(must, s.Number) {
			may = append(may, s.Number)
		}
	}
	var l []api.Rule
	for _, mti := range allTypes {
		l = append(l, api.Rule{MTI: strconv.Itoa(version) + mti, Must: slices.Clone(must), May: slices.Clone(may)})
	}
	return l
}

// plain is a dialect without tags, sealed one with a tag in field 128, late one of the other version, in other encodings.
func plain() api.Dialect {
	return api.Dialect{Name: "plain", MTIEnc: api.ASCII, MapEnc: api.ASCII, Fields: specs(), Rules: rulesOf(0, specs())}
}

func sealed() api.Dialect {
	return api.Dialect{Name: "sealed", MTIEnc: api.BCD, MapEnc: api.BINARY, Fields: specs(), Rules: rulesOf(0, specs(), 128), MAC: 128}
}

func late() api.Dialect {
	all := specs()
	for i, s := range all {
		switch {
		case s.Class == api.ClassN:
			all[i].Enc = api.BCD
		case s.Class == api.ClassZ:
			all[i].Enc = api.BCDR
		case s.Enc == api.ASCII && s.Class != api.ClassS:
			all[i].Enc = api.EBCDIC
		}
		if s.Digits > 0 {
			all[i].LenEnc, all[i].Digits = api.BINARY, 4
		}
	}
	return api.Dialect{Name: "late", Version: 1, MTIEnc: api.EBCDIC, MapEnc: api.EBCDIC, Fields: all, Rules: rulesOf(1, all, 128), MAC: 128}
}

const (
	shopPIN  = "PIN key of shop."
	bankPIN  = "PIN key of bank."
	tillKey  = "till's k"
	vaultKey = "this is vault's."
	exchange = "exchange keys..."
)

// config is a switch of two acquirers and two issuers, one of each with tags.
func config() api.Config {
	return api.Config{
		Dialects: []api.Dialect{plain(), sealed(), late()},
		Links: []api.Link{
			{Name: "shop", Role: api.Acquirer, Header: api.HeadFour, Most: 999, ID: "7", PIN: shopPIN, Answer: 2},
			{Name: "bank", Role: api.Issuer, Header: api.HeadTwo, Most: 999, ID: "8", PIN: bankPIN, Answer: 1000},
			{Name: "till", Role: api.Acquirer, Dialect: 1, Header: api.HeadBCD, Most: 9999, ID: "12345678901", MAC: 1, Pad: 1, Key: tillKey, Exchange: exchange, Answer: 1},
			{Name: "vault", Role: api.Issuer, Dialect: 2, Header: api.HeadWhole, Most: 900, ID: "9", MAC: 3, Pad: 2, Key: vaultKey, Answer: 1000},
		},
		Groups: []api.Group{
			{Name: "gold", Links: []int{1, 3}, Standin: api.Limits{Single: 5000, Count: 2, Sum: 8000, Window: 60}},
			{Name: "blue", Links: []int{3}, Standin: api.Limits{Single: 100, Count: 1, Sum: 100, Window: 10}},
		},
		Routes: []api.Route{{Prefix: "4"}, {Prefix: "42", Group: 1}, {Prefix: "5", Group: 1}},
		Start:  848059200, Pending: 3, Timeout: 5, Late: 10, Queue: 2, Retry: 4, Tries: 2, Cards: 3, Numbers: 999999,
	}
}

// doc is the configuration of the document's examples, and with it a few fields more.
func doc() api.Config {
	c := config()
	numbers := []int{2, 3, 4, 7, 11, 32, 37, 38, 39, 41, 49, 55, 60, 62, 70, 90}
	fields := slices.DeleteFunc(specs(), func(s api.FieldSpec) bool { return !slices.Contains(numbers, s.Number) })
	c.Dialects = []api.Dialect{{Name: "plain", MTIEnc: api.ASCII, MapEnc: api.ASCII, Fields: fields, Rules: rulesOf(0, fields)}}
	c.Links = c.Links[:2]
	for i := range c.Links {
		c.Links[i].PIN = ""
	}
	c.Links[1].Echo, c.Links[1].Answer = 50, 3
	c.Groups = c.Groups[:1]
	c.Groups[0].Links = []int{1}
	c.Routes = c.Routes[:1]
	c.Pending = 2
	return c
}

var (
	encodingNames = []string{"", "ascii", "bcd", "bcdr", "ebcdic", "binary"}
	classNames    = []string{"", "n", "a", "an", "ans", "b", "z", "x", "t", "s"}
	roleNames     = []string{"", "acquirer", "issuer"}
	headerNames   = []string{"", "two", "four", "bcd", "whole"}
)

func sixteenths(b string) string { return strings.ToUpper(hex.EncodeToString([]byte(b))) }

// momentText is a moment as a text, by the library's calendar.
func momentText(moment int) string {
	return time.Date(2000, 1, 1, 0, 0, moment, 0, time.UTC).Format("2006-01-02 15:04:05")
}

// printed is a configuration's text, written after the chapter a second time.
func printed(c api.Config) string {
	var b strings.Builder
	for _, d := range c.Dialects {
		fmt.Fprintf(&b, "dialect %s %d %s %s %d\n", d.Name, d.Version, encodingNames[d.MTIEnc], encodingNames[d.MapEnc], d.MAC)
		for _, f := range d.Fields {
			fmt.Fprintf(&b, "field %d %s %s ", f.Number, classNames[f.Class], encodingNames[f.Enc])
			if f.Digits > 0 {
				fmt.Fprintf(&b, "var %d %s %d\n", f.Digits, encodingNames[f.LenEnc], f.Size)
			} else {
				fmt.Fprintf(&b, "fixed %d\n", f.Size)
			}
		}
		for _, r := range d.Rules {
			fmt.Fprintf(&b, "rule %s must", r.MTI)
			for _, n := range r.Must {
				fmt.Fprintf(&b, " %d", n)
			}
			fmt.Fprint(&b, " may")
			for _, n := range r.May {
				fmt.Fprintf(&b, " %d", n)
			}
			fmt.Fprintln(&b)
		}
	}
	for _, l := range c.Links {
		fmt.Fprintf(&b, "link %s %s %s %s %d %s\n", l.Name, roleNames[l.Role], c.Dialects[l.Dialect].Name, headerNames[l.Header], l.Most, l.ID)
		if l.MAC != 0 {
			exchange := "-"
			if l.Exchange != "" {
				exchange = sixteenths(l.Exchange)
			}
			fmt.Fprintf(&b, "tags %d %d %s %s\n", l.MAC, l.Pad, sixteenths(l.Key), exchange)
		}
		if l.PIN != "" {
			fmt.Fprintf(&b, "pin %s\n", sixteenths(l.PIN))
		}
		fmt.Fprintf(&b, "wait %d %d\n", l.Echo, l.Answer)
	}
	for _, g := range c.Groups {
		fmt.Fprintf(&b, "group %s %d %d %d %d", g.Name, g.Standin.Single, g.Standin.Count, g.Standin.Sum, g.Standin.Window)
		for _, n := range g.Links {
			fmt.Fprintf(&b, " %s", c.Links[n].Name)
		}
		fmt.Fprintln(&b)
	}
	for _, r := range c.Routes {
		fmt.Fprintf(&b, "route %s %s\n", r.Prefix, c.Groups[r.Group].Name)
	}
	fmt.Fprintf(&b, "start %s\n", momentText(c.Start))
	fmt.Fprintf(&b, "table %d %d %d %d %d\n", c.Pending, c.Timeout, c.Late, c.Cards, c.Numbers)
	fmt.Fprintf(&b, "queue %d %d %d\n", c.Queue, c.Retry, c.Tries)
	return b.String()
}

// same tells whether two configurations are the same, where a list of nothing is nil or empty.
func same(a, b api.Config) bool { return reflect.DeepEqual(plainly(a), plainly(b)) }

// plainly is a copy in which no list is nil.
func plainly(c api.Config) api.Config {
	c.Dialects = append([]api.Dialect{}, c.Dialects...)
	for i := range c.Dialects {
		d := &c.Dialects[i]
		d.Fields = append([]api.FieldSpec{}, d.Fields...)
		d.Rules = append([]api.Rule{}, d.Rules...)
		for k := range d.Rules {
			d.Rules[k].Must = append([]int{}, d.Rules[k].Must...)
			d.Rules[k].May = append([]int{}, d.Rules[k].May...)
		}
	}
	c.Links = append([]api.Link{}, c.Links...)
	c.Groups = append([]api.Group{}, c.Groups...)
	for i := range c.Groups {
		c.Groups[i].Links = append([]int{}, c.Groups[i].Links...)
	}
	c.Routes = append([]api.Route{}, c.Routes...)
	return c
}

// reads holds that a text is a configuration.
func reads(t *testing.T, what, text string, want api.Config) {
	t.Helper()
	if c, e, n := shell.Config(text); e != api.OK || n != 0 || !same(c, want) {
		t.Errorf("S1: %s: Config is %s, %d, %+v; must be %+v", what, nameOf(e), n, c, want)
	}
}

// refuses holds that a text is none: with which error, and at which line.
func refuses(t *testing.T, what, text string, e api.Errno, n int) {
	t.Helper()
	if c, is, at := shell.Config(text); is != e || at != n || !reflect.DeepEqual(c, api.Config{}) {
		t.Errorf("S1: %s: Config is %s, %d; must be %s, %d", what, nameOf(is), at, nameOf(e), n)
	}
}

// lineOf is the number of a text's first line that begins so.
func lineOf(t *testing.T, text, line string) int {
	t.Helper()
	for i, s := range strings.Split(text, "\n") {
		if strings.HasPrefix(s, line) {
			return i + 1
		}
	}
	t.Fatalf("the test's text has no line `%s`", line)
	return 0
}

// changed is a text with another thing in the place of the first one that is so.
func changed(t *testing.T, text, from, to string) string {
	t.Helper()
	if !strings.Contains(text, from) {
		t.Fatalf("the test's text has no `%s`", from)
	}
	return strings.Replace(text, from, to, 1)
}

// runs is what a script tells, the same with either stack.
func runs(t *testing.T, script string) string {
	t.Helper()
	one, e, n := shell.Run(script, core.Tree)
	if e != api.OK || n != 0 {
		t.Fatalf("S4: Run is %s, %d", nameOf(e), n)
	}
	two, e, n := shell.Run(script, core.Scan)
	if e != api.OK || n != 0 {
		t.Fatalf("S4: Run is %s, %d", nameOf(e), n)
	}
	if one != two {
		t.Fatalf("S5: with one stack is told\n%s\nwith the other\n%s", one, two)
	}
	return one
}

// stops holds that a script is refused with either stack: with which error, and at which line.
func stops(t *testing.T, what, script string, e api.Errno, n int) {
	t.Helper()
	for _, stack := range []int{core.Tree, core.Scan} {
		if s, is, at := shell.Run(script, stack); s != "" || is != e || at != n {
			t.Errorf("S4: %s: Run is %.100q, %s, %d; must be %s, %d", what, s, nameOf(is), at, nameOf(e), n)
		}
	}
}

// plays holds what is told of some lines of a script, behind those of a configuration: each line of it that begins with a `|` is one that is told.
func plays(t *testing.T, c api.Config, lines string) {
	t.Helper()
	script, want := printed(c)+"go\n", ""
	for _, s := range strings.Split(lines, "\n") {
		s = strings.TrimSpace(s)
		if told, ok := strings.CutPrefix(s, "| "); ok {
			want += told + "\n"
		} else {
			script += s + "\n"
		}
	}
	tells(t, runs(t, script), want)
}

// tells holds two texts against each other, line by line.
func tells(t *testing.T, is, want string) {
	t.Helper()
	if is == want {
		return
	}
	l, k := strings.SplitAfter(is, "\n"), strings.SplitAfter(want, "\n")
	for i := range k {
		if i == len(l) || l[i] != k[i] {
			t.Fatalf("S4: line %d of what is told is\n%.2000q; must be\n%.2000q; ahead of it\n%.1000s", i+1, strings.Join(l[min(i, len(l)):min(i+1, len(l))], ""), k[i], strings.Join(k[max(0, i-5):i], ""))
		}
	}
	t.Fatalf("S4: more is told: %.1000s", strings.Join(l[len(k):], ""))
}
