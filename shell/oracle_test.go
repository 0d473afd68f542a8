package shell_test

import (
	"regexp"
	"slices"
	"strconv"
	"strings"
	"testing"
	"time"

	"turnstile/api"
	"turnstile/route"
	"turnstile/shell"
)

// A second reading of the chapter's configurations: each kind of line is a pattern.

const (
	someNumber = `(?:0|[1-9][0-9]{0,11})`
	someName   = `[a-z0-9-]{1,16}`
	someHex    = `(?:[0-9A-F][0-9A-F])+`
	someEnc    = `(?:ascii|bcd|bcdr|ebcdic|binary)`
	someClass  = `(?:n|a|an|ans|b|z|x|t|s)`
)

// forms are the lines of configurations: N a number, M a name, H bytes in sixteenths, E an encoding, C a class.
var forms = func() []*regexp.Regexp {
	var l []*regexp.Regexp
	for _, s := range []string{
		`dialect M N E E N`,
		`field N C E (fixed N|var N E N)`,
		`rule [0-9]{4} must( N)* may( N)*`,
		`link M (acquirer|issuer) M (two|four|bcd|whole) N [0-9]+`,
		`tags N N H (H|-)`,
		`pin H`,
		`wait N N`,
		`group M N N N N( M)+`,
		`route [0-9]+ M`,
		`start [0-9]{4}-[0-9]{2}-[0-9]{2} [0-9]{2}:[0-9]{2}:[0-9]{2}`,
		`table N N N N N`,
		`queue N N N`,
	} {
		s = strings.NewReplacer("N", someNumber, "M", someName, "H", someHex, "E", someEnc, "C", someClass).Replace(s)
		l = append(l, regexp.MustCompile(`\A`+s+`\z`))
	}
	return l
}()

// mayStand is what may stand in a line ahead of a remark.
var mayStand = regexp.MustCompile(`\A[ -~]*\z`)

// linesOf are a text's lines; each as its words with a blank between, or, if it has a byte that may not stand there, as `\n`.
func linesOf(text string) []string {
	if text == "" {
		return nil
	}
	l := strings.Split(strings.TrimSuffix(text, "\n"), "\n")
	for i, s := range l {
		s, _, _ = strings.Cut(s, "#")
		if mayStand.MatchString(s) {
			l[i] = strings.Join(strings.Fields(s), " ")
		} else {
			l[i] = "\n"
		}
	}
	return l
}

// reading is a configuration that is read.
type reading struct {
	api.Config
	said []string // what stood in the whole once, and behind the last link
}

func (r *reading) has(what string) bool { return slices.Contains(r.said, what) }

func (r *reading) dialect(name string) int {
	return slices.IndexFunc(r.Dialects, func(d api.Dialect) bool { return d.Name == name })
}

func (r *reading) link(name string) int {
	return slices.IndexFunc(r.Links, func(l api.Link) bool { return l.Name == name })
}

func (r *reading) group(name string) int {
	return slices.IndexFunc(r.Groups, func(g api.Group) bool { return g.Name == name })
}

func atoi(s string) int {
	n, err := strconv.Atoi(s)
	if err != nil {
		panic(err)
	}
	return n
}

func atois(l []string) []int {
	var all []int
	for _, s := range l {
		all = append(all, atoi(s))
	}
	return all
}

func unhex(s string) string {
	var b []byte
	for i := 0; i+1 < len(s); i += 2 {
		n, err := strconv.ParseUint(s[i:i+2], 16, 8)
		if err != nil {
			panic(err)
		}
		b = append(b, byte(n))
	}
	return string(b)
}

// momentFrom is how many seconds a moment lies behind the beginning of the year 2000.
func momentFrom(s string) (int, bool) {
	at, err := time.Parse("2006-01-02 15:04:05", s)
	return int(at.Unix() - time.Date(2000, 1, 1, 0, 0, 0, 0, time.UTC).Unix()), err == nil && at.Year() >= 2000 && at.Year() <= 2099
}

// takes takes a line, if it may stand there.
func (r *reading) takes(s string) bool {
	if s == "" {
		return true
	}
	if !slices.ContainsFunc(forms, func(f *regexp.Regexp) bool { return f.MatchString(s) }) {
		return false
	}
	w := strings.Fields(s)
	switch w[0] {
	case "dialect":
		r.Dialects = append(r.Dialects, api.Dialect{Name: w[1], Version: atoi(w[2]), MTIEnc: slices.Index(encodingNames, w[3]), MapEnc: slices.Index(encodingNames, w[4]), MAC: atoi(w[5])})
	case "field", "rule":
		return r.takesOfDialect(w)
	case "link":
		l := api.Link{Name: w[1], Role: slices.Index(roleNames, w[2]), Dialect: r.dialect(w[3]), Header: slices.Index(headerNames, w[4]), Most: atoi(w[5]), ID: w[6]}
		r.Links = append(r.Links, l)
		r.said = slices.DeleteFunc(r.said, func(s string) bool { return strings.Contains("tags pin wait", s) })
		return l.Dialect >= 0
	case "tags", "pin", "wait":
		return r.takesOfLink(w)
	case "group":
		g := api.Group{Name: w[1], Standin: api.Limits{Single: atoi(w[2]), Count: atoi(w[3]), Sum: atoi(w[4]), Window: atoi(w[5])}}
		for _, name := range w[6:] {
			g.Links = append(g.Links, r.link(name))
		}
		r.Groups = append(r.Groups, g)
		return !slices.Contains(g.Links, -1)
	case "route":
		r.Routes = append(r.Routes, api.Route{Prefix: w[1], Group: r.group(w[2])})
		return r.group(w[2]) >= 0
	default:
		return r.takesOnce(w)
	}
	return true
}

func (r *reading) takesOfDialect(w []string) bool {
	if len(r.Dialects) == 0 {
		return false
	}
	d := &r.Dialects[len(r.Dialects)-1]
	if w[0] == "rule" {
		may := slices.Index(w, "may")
		d.Rules = append(d.Rules, api.Rule{MTI: w[1], Must: atois(w[3:may]), May: atois(w[may+1:])})
		return true
	}
	f := api.FieldSpec{Number: atoi(w[1]), Class: slices.Index(classNames, w[2]), Enc: slices.Index(encodingNames, w[3]), Size: atoi(w[len(w)-1])}
	if w[4] == "var" {
		f.Digits, f.LenEnc = atoi(w[5]), slices.Index(encodingNames, w[6])
	}
	d.Fields = append(d.Fields, f)
	return true
}

func (r *reading) takesOfLink(w []string) bool {
	if len(r.Links) == 0 || r.has(w[0]) {
		return false
	}
	r.said = append(r.said, w[0])
	l := &r.Links[len(r.Links)-1]
	switch w[0] {
	case "tags":
		l.MAC, l.Pad, l.Key = atoi(w[1]), atoi(w[2]), unhex(w[3])
		if w[4] != "-" {
			l.Exchange = unhex(w[4])
		}
	case "pin":
		l.PIN = unhex(w[1])
	case "wait":
		l.Echo, l.Answer = atoi(w[1]), atoi(w[2])
	}
	return true
}

func (r *reading) takesOnce(w []string) bool {
	if r.has(w[0]) {
		return false
	}
	r.said = append(r.said, w[0])
	switch w[0] {
	case "start":
		at, ok := momentFrom(w[1] + " " + w[2])
		r.Start = at
		return ok
	case "table":
		r.Pending, r.Timeout, r.Late, r.Cards, r.Numbers = atoi(w[1]), atoi(w[2]), atoi(w[3]), atoi(w[4]), atoi(w[5])
	case "queue":
		r.Queue, r.Retry, r.Tries = atoi(w[1]), atoi(w[2]), atoi(w[3])
	}
	return true
}

func (r *reading) whole() bool { return r.has("start") && r.has("table") && r.has("queue") }

// wantConfig is what a text says: the configuration, or its error, and where.
func wantConfig(text string) (api.Config, api.Errno, int) {
	if len(text) > 100000 {
		return api.Config{}, api.ErrLong, 0
	}
	var r reading
	l := linesOf(text)
	for i, s := range l {
		if !r.takes(s) {
			return api.Config{}, api.ErrScript, i + 1
		}
	}
	if !r.whole() {
		return api.Config{}, api.ErrScript, len(l) + 1
	}
	if e, _ := route.Right(r.Config); e != api.OK {
		return api.Config{}, e, 0
	}
	return r.Config, api.OK, 0
}

// holds holds Config of a text against the second reading.
func holds(t *testing.T, what, text string) api.Errno {
	t.Helper()
	want, e, n := wantConfig(text)
	if c, is, at := shell.Config(text); is != e || at != n || !same(c, want) {
		t.Fatalf("S1: %s: Config is %s, %d, %+v; by the second reading %s, %d, %+v", what, nameOf(is), at, c, nameOf(e), n, want)
	}
	return e
}
