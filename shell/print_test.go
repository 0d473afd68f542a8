package shell_test

import (
	"fmt"
	"math/rand"
	"slices"
	"strings"
	"testing"

	"turnstile/api"
	"turnstile/route"
	"turnstile/shell"
)

func prints(t *testing.T, what string, c api.Config, want string) {
	t.Helper()
	if s, e := shell.Print(c); e != api.OK || s != want {
		t.Fatalf("S2: %s: Print is %s,\n%s\nmust be\n%s", what, nameOf(e), s, want)
	}
}

func printsNot(t *testing.T, what string, c api.Config, want api.Errno) {
	t.Helper()
	if s, e := shell.Print(c); e != want || s != "" {
		t.Errorf("S2: %s: Print is %s, %.100q; must be %s", what, nameOf(e), s, nameOf(want))
	}
}

// TestPrintShort: the order of lines, one blank between words, and what is left out.
func TestPrintShort(t *testing.T) {
	prints(t, "the short configuration", wantShort(), short)
	mixed := "# a remark\n" + changed(t, changed(t, short, "wait 0 2\n", ""), "pin 00", " wait  0 2 # here\npin 00")
	mixed = changed(t, mixed, "link bank", "wait 0 2\nlink bank")
	mixed = changed(t, mixed, " wait  0 2 # here\n", "")
	c, e, n := shell.Config(mixed)
	if e != api.OK || n != 0 {
		t.Fatalf("S1: Config is %s, %d", nameOf(e), n)
	}
	prints(t, "lines in another order, and remarks", c, short)
}

// TestPrintParts: what a line has only if it is there.
func TestPrintParts(t *testing.T) {
	c := wantShort()
	c.Links[0].Exchange = "\x00\x01\x02\x03\x04\x05\x06\x07\x08\x09\x0A\x0B\xFC\xFD\xFE\xFF"
	prints(t, "an exchange key", c, changed(t, short, "CDEF -", "CDEF 000102030405060708090A0BFCFDFEFF"))
	c = wantShort()
	c.Links[0].MAC, c.Links[0].Pad, c.Links[0].Key = 3, 2, strings.Repeat("\x00", 16)
	prints(t, "a long key", c, changed(t, short, "tags 1 1 0123456789ABCDEF", "tags 3 2 "+strings.Repeat("0", 32)))
	c = wantShort()
	c.Links[0].MAC, c.Links[0].Pad, c.Links[0].Key = 0, 0, ""
	prints(t, "no tags", c, changed(t, short, "tags 1 1 0123456789ABCDEF -\n", ""))
	c = wantShort()
	c.Links[1].PIN = ""
	prints(t, "no PIN key", c, changed(t, short, "pin 00112233445566778899AABBCCDDEEFF\n", ""))
	c = wantShort()
	c.Groups, c.Routes = nil, nil
	prints(t, "no groups", c, changed(t, short, "group gold 5000 2 8000 60 bank\nroute 4 gold\n", ""))
	c = wantShort()
	c.Dialects[1].Fields, c.Dialects[1].Rules = nil, nil
	prints(t, "no fields, no rules", c, changed(t, short, "field 2 n ebcdic var 4 binary 19\nrule 1200 must may\n", ""))
	c = wantShort()
	c.Start = 0
	prints(t, "the first moment", c, changed(t, short, "2026-11-15 12:00:00", "2000-01-01 00:00:00"))
	c.Start = api.MaxMoment
	prints(t, "the last moment", c, changed(t, short, "2026-11-15 12:00:00", "2099-12-31 23:59:59"))
	c = wantShort()
	c.Links = append(c.Links, c.Links[1])
	c.Links[2].Name = "bank-2"
	c.Groups = append(c.Groups, api.Group{Name: "silver", Links: []int{2, 1}, Standin: api.Limits{Window: 100000}})
	c.Routes = append(c.Routes, api.Route{Prefix: "00", Group: 1}, api.Route{Prefix: "41"})
	prints(t, "several links of a group", c, changed(t, changed(t, short, "group gold", "link bank-2 issuer two two 999 8\npin 00112233445566778899AABBCCDDEEFF\nwait 50 3\ngroup gold"),
		"route 4 gold\n", "group silver 0 0 0 100000 bank-2 bank\nroute 4 gold\nroute 00 silver\nroute 41 gold\n"))
}

func TestPrintRefuses(t *testing.T) {
	printsNot(t, "nothing", api.Config{}, api.ErrMany)
	for what, x := range map[string]struct {
		do func(c *api.Config)
		e  api.Errno
	}{
		"a dialect's name":  {func(c *api.Config) { c.Dialects[1].Name = "one" }, api.ErrName},
		"an encoding":       {func(c *api.Config) { c.Dialects[1].MTIEnc = 6 }, api.ErrVersion},
		"a class":           {func(c *api.Config) { c.Dialects[0].Fields[2].Class = 10 }, api.ErrClass},
		"a negative class":  {func(c *api.Config) { c.Dialects[0].Fields[2].Class = -1 }, api.ErrClass},
		"a link's dialect":  {func(c *api.Config) { c.Links[0].Dialect = 2 }, api.ErrLink},
		"a link's role":     {func(c *api.Config) { c.Links[0].Role = 0 }, api.ErrLink},
		"a link's header":   {func(c *api.Config) { c.Links[0].Header = 9 }, api.ErrLink},
		"a group's link":    {func(c *api.Config) { c.Groups[0].Links = []int{7} }, api.ErrGroup},
		"a route's group":   {func(c *api.Config) { c.Routes[0].Group = -1 }, api.ErrGroup},
		"a route's prefix":  {func(c *api.Config) { c.Routes[0].Prefix = "" }, api.ErrPrefix},
		"Start":             {func(c *api.Config) { c.Start = -1 }, api.ErrConfig},
		"Tries":             {func(c *api.Config) { c.Tries = 0 }, api.ErrConfig},
		"a name with blank": {func(c *api.Config) { c.Links[0].Name = "a b" }, api.ErrLink},
	} {
		c := wantShort()
		x.do(&c)
		printsNot(t, what, c, x.e)
	}
}

// wide is a configuration with so many routes, each a line of 29 bytes; an ID, and the last prefix, are longer by some.
func wide(routes, more int) api.Config {
	c := wantShort()
	c.Groups[0].Name = "gold-gold-gold-g"
	c.Routes = nil
	for i := range routes {
		c.Routes = append(c.Routes, api.Route{Prefix: fmt.Sprintf("%05d", i)})
	}
	c.Links[0].ID += strings.Repeat("0", min(more, 10))
	c.Routes[routes-1].Prefix += strings.Repeat("0", max(0, more-10))
	return c
}

// TestPrintLong: 100000 bytes may be, one more may not.
func TestPrintLong(t *testing.T) {
	base := len(printed(wide(1, 0)))
	routes := 1 + (100000-base)/29
	more := (100000 - base) % 29
	if more > 15 { // they may be 16 digits longer
		t.Fatalf("the test's configuration has other lines: %d", more)
	}
	c := wide(routes, more)
	text := printed(c)
	if len(text) != 100000 {
		t.Fatalf("the test's text has %d bytes", len(text))
	}
	prints(t, "100000 bytes", c, text)
	reads(t, "100000 bytes", text, c)
	printsNot(t, "100001 bytes", wide(routes, more+1), api.ErrLong)
	printsNot(t, "many routes", wide(4096, 0), api.ErrLong)
	c = wide(4096, 0)
	c.Tries = 0
	printsNot(t, "many routes, but no tries", c, api.ErrConfig)
}

// someRow are some of some numbers, rising.
func someRow(r *rand.Rand, l []int, chance int) []int {
	var some []int
	for _, n := range l {
		if r.Intn(chance) == 0 {
			some = append(some, n)
		}
	}
	return some
}

func oneOf[T any](r *rand.Rand, l ...T) T { return l[r.Intn(len(l))] }

func bytesOf(r *rand.Rand, n int) string {
	b := make([]byte, n)
	for i := range b {
		b[i] = byte(r.Intn(256))
	}
	return string(b)
}

// someDialect is a right one of some fields, mostly without tags.
func someDialect(r *rand.Rand, name string) api.Dialect {
	d := api.Dialect{Name: name, Version: r.Intn(2), MTIEnc: oneOf(r, 1, 2, 4), MapEnc: oneOf(r, 1, 4, 5)}
	var numbers []int
	for _, s := range specs() {
		if s.Number == 128 || r.Intn(2) == 0 {
			continue
		}
		if s.Class == api.ClassN {
			s.Enc = oneOf(r, 1, 2, 4)
		}
		if s.Digits > 0 {
			s.LenEnc, s.Digits = oneOf(r, 1, 2, 4, 5), max(s.Digits, 1+r.Intn(4))
		}
		d.Fields = append(d.Fields, s)
		numbers = append(numbers, s.Number)
	}
	if r.Intn(2) == 0 {
		d.MAC = 128
		d.Fields = append(d.Fields, spec(128, api.ClassB, 0, 8))
	}
	for _, mti := range allTypes {
		if r.Intn(2) == 0 {
			must := someRow(r, numbers, 4)
			may := someRow(r, slices.DeleteFunc(slices.Clone(numbers), func(n int) bool { return slices.Contains(must, n) }), 2)
			if d.MAC != 0 {
				must = append(must, d.MAC)
			}
			d.Rules = append(d.Rules, api.Rule{MTI: fmt.Sprint(d.Version) + mti, Must: must, May: may})
		}
	}
	return d
}

// someConfig is a right one, of anything.
func someConfig(r *rand.Rand) api.Config {
	c := api.Config{
		Start: oneOf(r, 0, api.MaxMoment, r.Intn(api.MaxMoment)), Pending: 1 + r.Intn(10000), Timeout: 1 + r.Intn(100000), Late: 1 + r.Intn(100000), Queue: 1 + r.Intn(10000),
		Retry: 1 + r.Intn(100000), Tries: 1 + r.Intn(100), Cards: 1 + r.Intn(10000), Numbers: 1 + r.Intn(999999),
	}
	for i := range 1 + r.Intn(3) {
		c.Dialects = append(c.Dialects, someDialect(r, fmt.Sprint("d", i)))
	}
	var issuers []int
	for i := range 1 + r.Intn(6) {
		l := api.Link{Name: fmt.Sprint("l-", i), Role: 1 + r.Intn(2), Dialect: r.Intn(len(c.Dialects)), Header: 1 + r.Intn(4), Most: 1 + r.Intn(9999), ID: fmt.Sprintf("%0*d", 1+r.Intn(11), r.Intn(10)), Echo: r.Intn(100001), Answer: 1 + r.Intn(100000)}
		if l.Role == api.Issuer {
			issuers = append(issuers, i)
		}
		if c.Dialects[l.Dialect].MAC != 0 && r.Intn(2) == 0 {
			l.MAC, l.Pad = oneOf(r, 1, 3), 1+r.Intn(2)
			l.Key, l.Exchange = bytesOf(r, map[int]int{1: 8, 3: 16}[l.MAC]), bytesOf(r, oneOf(r, 0, 16))
		}
		l.PIN = bytesOf(r, oneOf(r, 0, 16))
		c.Links = append(c.Links, l)
	}
	for i := range r.Intn(4) {
		if g := (api.Group{Name: fmt.Sprint("g", i), Links: someRow(r, issuers, 2), Standin: api.Limits{Single: r.Intn(1000000000000), Count: r.Intn(100), Sum: r.Intn(1000000000000), Window: 1 + r.Intn(100000)}}); len(g.Links) > 0 {
			c.Groups = append(c.Groups, g)
		}
	}
	for i := range r.Intn(5) * min(1, len(c.Groups)) {
		c.Routes = append(c.Routes, api.Route{Prefix: strings.Repeat(fmt.Sprint(i), 1+r.Intn(11)), Group: r.Intn(len(c.Groups))})
	}
	return c
}

// TestBackAndForth: what is printed is read again, and what is read is printed the same (S3).
func TestBackAndForth(t *testing.T) {
	r := rand.New(rand.NewSource(2502))
	for range 2000 {
		c := someConfig(r)
		if e, n := route.Right(c); e != api.OK {
			t.Fatalf("the test's configuration is %s, %d: %+v", nameOf(e), n, c)
		}
		prints(t, "some configuration", c, printed(c))
		s, _ := shell.Print(c)
		again, e, n := shell.Config(s)
		if e != api.OK || n != 0 || !same(again, c) {
			t.Fatalf("S3: Config of Print is %s, %d, %+v; must be %+v", nameOf(e), n, again, c)
		}
		if two, e := shell.Print(again); e != api.OK || two != s {
			t.Fatalf("S3: Print of Config of Print is %s,\n%s; must be\n%s", nameOf(e), two, s)
		}
	}
}
