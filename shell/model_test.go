package shell_test

import (
	"fmt"
	"hash/crc32"
	"regexp"
	"slices"
	"strings"
	"testing"

	"turnstile/api"
	"turnstile/core"
	"turnstile/digits"
	"turnstile/journal"
	"turnstile/money"
	"turnstile/route"
	"turnstile/scan"
	"turnstile/seal"
	"turnstile/shell"
	"turnstile/tlv"
)

// A second reading of the chapter's scripts: commands are patterns, messages are read and written by tables.

var (
	linkCommand  = regexp.MustCompile(`\A(up|down|queued) (` + someName + `)\z`)
	hexCommand   = regexp.MustCompile(`\A(bytes|key) (` + someName + `) (` + someHex + `)\z`)
	tickCommand  = regexp.MustCompile(`\Atick ([1-9][0-9]{0,5})\z`)
	sendCommand  = regexp.MustCompile(`\Asend (` + someName + `) ([0-9]{4})((?: (?:0|[1-9][0-9]{0,2})=(?:\$` + someHex + `|[!-#%-~][!-~]*))*)\z`)
	otherCommand = regexp.MustCompile(`\A(view|waiting|check)\z`)
)

// mayBe tells whether a line is a command, with links that there are.
func (r *reading) mayBe(s string) bool {
	if m := linkCommand.FindStringSubmatch(s); m != nil {
		return r.link(m[2]) >= 0
	}
	if m := hexCommand.FindStringSubmatch(s); m != nil {
		return r.link(m[2]) >= 0
	}
	if m := tickCommand.FindStringSubmatch(s); m != nil {
		return atoi(m[1]) <= 100000
	}
	if m := sendCommand.FindStringSubmatch(s); m != nil {
		var numbers []string
		for _, w := range strings.Fields(m[3]) {
			number, _, _ := strings.Cut(w, "=")
			if slices.Contains(numbers, number) {
				return false
			}
			numbers = append(numbers, number)
		}
		return r.link(m[1]) >= 0
	}
	return s == "" || otherCommand.MatchString(s)
}

// wantRun is what a script tells, with the stack Scan; else its error, and where.
func wantRun(script string) (string, api.Errno, int) {
	if len(script) > 100000 {
		return "", api.ErrLong, 0
	}
	var r reading
	l := linesOf(script)
	at := slices.Index(l, "go")
	for i, s := range l {
		switch {
		case i == at && !r.whole(), i < at && !r.takes(s), at < 0 && !r.takes(s), at >= 0 && i > at && !r.mayBe(s):
			return "", api.ErrScript, i + 1
		}
	}
	if at < 0 {
		return "", api.ErrScript, len(l) + 1
	}
	if e, _ := route.Right(r.Config); e != api.OK {
		return "", e, at + 1
	}
	m := newModel(r.Config)
	for _, s := range l[at+1:] {
		m.does(s)
	}
	return m.told.String(), api.OK, 0
}

// model is a switch to which what lines say happens, and what is told of that.
type model struct {
	c       api.Config
	s       *core.Switch
	tables  []*scan.Table // of links
	keys    []string
	journal *journal.Journal
	told    strings.Builder
	seen    map[string]int // first words of what is told
}

func newModel(c api.Config) *model {
	m := &model{c: c, journal: journal.New(), seen: map[string]int{}}
	m.s, _, _ = core.New(c, core.Scan)
	for _, l := range c.Links {
		table, _, _ := scan.Compile(c.Dialects[l.Dialect])
		m.tables = append(m.tables, table)
		m.keys = append(m.keys, l.Key)
	}
	return m
}

func (m *model) tells(form string, parts ...any) {
	s := fmt.Sprintf(form, parts...)
	m.told.WriteString(s + "\n")
	m.seen[strings.Fields(s)[0]]++
	if strings.ContainsAny(s[:1], "!?x") {
		m.seen[strings.Join(slices.DeleteFunc(strings.Fields(s), func(w string) bool { return len(w) > 3 || strings.Contains(w, "l-") }), " ")]++
	}
}

// does does what a command says.
func (m *model) does(s string) {
	w := strings.Fields(s)
	link := -1
	if len(w) > 1 {
		link = slices.IndexFunc(m.c.Links, func(l api.Link) bool { return l.Name == w[1] })
	}
	switch strings.Join(w[:min(1, len(w))], "") {
	case "up":
		m.happens(api.Event{Kind: 3, Link: link})
	case "down":
		m.happens(api.Event{Kind: 4, Link: link})
	case "tick":
		m.happens(api.Event{Kind: 2, N: atoi(w[1])})
	case "bytes":
		m.happens(api.Event{Kind: 1, Link: link, Bytes: unhex(w[2])})
	case "key":
		m.keys[link] = unhex(w[2])
	case "send":
		if b, e := m.frame(link, w[2], w[3:]); e != api.OK {
			m.tells("? %d", int(e))
		} else {
			m.happens(api.Event{Kind: 1, Link: link, Bytes: b})
		}
	case "view":
		m.views()
	case "waiting":
		for _, p := range m.s.Waiting() {
			m.tells("wait %s %s %d %s", m.c.Links[p.From].Name, m.c.Links[p.To].Name, p.Number, p.Request.MTI)
		}
	case "queued":
		for _, a := range m.s.Queued(link) {
			m.tells("queue %s %d %s", w[1], a.Number, a.Message.MTI)
		}
	case "check":
		m.tells("journal %d %08X same", m.journal.Len(), crc32.ChecksumIEEE([]byte(m.journal.Bytes())))
	}
}

func (m *model) happens(e api.Event) {
	l, code := m.s.Step(e)
	if code != api.OK {
		m.tells("? %d", int(code))
		return
	}
	if err := m.journal.Append(journal.Entry{Event: e, Outputs: l}); err != nil {
		panic("the test's event has too many outputs")
	}
	for _, o := range l {
		name := m.c.Links[o.Link].Name
		switch o.Kind {
		case 1:
			m.tells("> %s %s", name, m.line(o.Link, o.Bytes))
		case 2:
			m.tells("! %s %d %d", name, int(o.Code), o.At)
		case 3:
			m.tells("x %s %d", name, int(o.Code))
		}
	}
}

func (m *model) views() {
	v := m.s.View()
	m.tells("time %s ticks %d pending %d late %d", momentText(min(m.c.Start+v.Now, 3155759999)), v.Now, v.Pending, v.Late)
	for i, l := range m.c.Links {
		m.tells("%s %s %s held %d queued %d dead %d keys %d %s", l.Name, map[bool]string{true: "up", false: "down"}[v.Up[i]], map[bool]string{true: "ready", false: "off"}[v.Ready[i]],
			v.Held[i], v.Queued[i], v.Dead[i], v.Keys[i], strings.Trim(fmt.Sprint(v.Counts[i]), "{}"))
	}
}

// class is that of a link's field.
func (m *model) class(link, number int) int {
	for _, s := range m.c.Dialects[m.c.Links[link].Dialect].Fields {
		if s.Number == number {
			return s.Class
		}
	}
	return 0
}

// line is a frame's message as it is told.
func (m *model) line(link int, b string) string {
	b = b[map[int]int{1: 2, 2: 4, 3: 2, 4: 2}[m.c.Links[link].Header]:]
	x, defect := m.tables[link].Parse(b)
	if defect.Code != api.OK {
		panic(fmt.Sprintf("what goes out is no message: %v %q", defect, b))
	}
	s := x.MTI
	amount, currency := "", ""
	for _, f := range x.Fields {
		value := f.Value
		switch class := m.class(link, f.Number); {
		case class == api.ClassT:
			b, _ := tlv.Build(f.Kids)
			value = "$" + sixteenths(b)
		case class == api.ClassS:
			b, _ := tlv.BuildSub(f.Kids)
			value = "$" + sixteenths(b)
		case regexp.MustCompile(`\A[ -#%-^\x60-~][ -^\x60-~]*\z`).MatchString(value):
			value = strings.ReplaceAll(value, " ", "_")
		default:
			value = "$" + sixteenths(value)
		}
		s += fmt.Sprintf(" %d=%s", f.Number, value)
		switch f.Number {
		case 4:
			amount = f.Value
		case 49:
			currency = f.Value
		}
	}
	if amount != "" && currency != "" {
		if told, e := money.Show(atoi(amount), currency); e == api.OK {
			s += " (" + told + ")"
		}
	}
	return s
}

// frame is a message as `send` says it, as it comes over a link.
func (m *model) frame(link int, mti string, words []string) (string, api.Errno) {
	l := m.c.Links[link]
	mac := m.c.Dialects[l.Dialect].MAC
	said := map[int]string{}
	for _, w := range words {
		number, value, _ := strings.Cut(w, "=")
		said[atoi(number)] = value
	}
	if l.MAC != 0 {
		said[mac] = "$0000000000000000"
	}
	x := api.Message{MTI: mti}
	for n := range 1000 {
		value, ok := said[n]
		if !ok {
			continue
		}
		f := api.Field{Number: n}
		hexed, isHex := strings.CutPrefix(value, "$")
		e := api.OK
		switch class := m.class(link, n); {
		case isHex && class == api.ClassT:
			f.Kids, e, _ = tlv.Parse(unhex(hexed))
		case isHex && class == api.ClassS:
			f.Kids, e, _ = tlv.ParseSub(unhex(hexed))
		case isHex:
			f.Value = unhex(hexed)
		default:
			f.Value = strings.ReplaceAll(value, "_", " ")
		}
		if e != api.OK {
			return "", e
		}
		x.Fields = append(x.Fields, f)
	}
	b, e, _ := m.tables[link].Build(x)
	if e != api.OK {
		return "", e
	}
	if l.MAC != 0 {
		tag, e := seal.Tag(l.MAC, l.Pad, m.keys[link], b[:len(b)-8])
		if e != api.OK {
			return "", e
		}
		b = b[:len(b)-8] + tag
	}
	if len(b) > l.Most {
		return "", api.ErrLong
	}
	return headOf(l.Header, len(b)) + b, api.OK
}

// headOf is the header of a message of n bytes.
func headOf(header, n int) string {
	switch header {
	case api.HeadTwo:
		return string([]byte{byte(n >> 8), byte(n)})
	case api.HeadFour:
		return fmt.Sprintf("%04d", n)
	case api.HeadBCD:
		b, _ := digits.Pack(api.BCD, fmt.Sprintf("%04d", n))
		return b
	}
	return string([]byte{byte((n + 2) >> 8), byte(n + 2)})
}

// runsAs holds Run of a script, with either stack, against the second reading.
func runsAs(t *testing.T, script string) api.Errno {
	t.Helper()
	want, e, n := wantRun(script)
	for _, stack := range []int{core.Tree, core.Scan} {
		s, is, at := shell.Run(script, stack)
		if is != e || at != n {
			t.Fatalf("S4: with the stack %d Run is %s, %d; by the second reading %s, %d:\n%s", stack, nameOf(is), at, nameOf(e), n, script)
		}
		tells(t, s, want)
	}
	return e
}
