package core_test

import (
	"encoding/hex"
	"fmt"
	"slices"
	"strconv"
	"strings"
	"testing"

	"turnstile/api"
	"turnstile/core"
	"turnstile/frame"
	"turnstile/seal"
	"turnstile/tlv"
	"turnstile/tree"
)

// Configurations, messages and outputs as lines of text, and switches of both stacks that are played side by side.

// names are those of errors in lines.
var names = map[string]api.Errno{
	"ErrArg": api.ErrArg, "ErrMTI": api.ErrMTI, "ErrMust": api.ErrMust, "ErrValue": api.ErrValue, "ErrLength": api.ErrLength,
	"DefShort": api.DefShort, "DefMTI": api.DefMTI, "DefMap": api.DefMap, "DefUnknown": api.DefUnknown, "DefContent": api.DefContent,
	"DefRest": api.DefRest, "DefRule": api.DefRule, "ErrHeader": api.ErrHeader, "ErrLong": api.ErrLong, "ErrState": api.ErrState,
	"ErrSpent": api.ErrSpent, "ErrTwice": api.ErrTwice, "ErrNone": api.ErrNone, "ErrQueue": api.ErrQueue,
	"ErrOff": api.ErrOff, "ErrKind": api.ErrKind, "ErrSeal": api.ErrSeal, "ErrEvent": api.ErrEvent,
}

// nameOf is an error as lines have it.
func nameOf(e api.Errno) string {
	for name, code := range names {
		if code == e {
			return name
		}
	}
	return strconv.Itoa(int(e))
}

// spec is a right spec: of the class T or B in bytes, else in ASCII.
func spec(number, class, digits, size int) api.FieldSpec {
	s := api.FieldSpec{Number: number, Class: class, Enc: api.ASCII, Digits: digits, Size: size}
	if class == api.ClassB || class == api.ClassT {
		s.Enc = api.BINARY
	}
	if digits > 0 {
		s.LenEnc = api.ASCII
	}
	return s
}

// specs are all known fields, one of nodes, one of bytes, and one that may be a tag.
func specs() []api.FieldSpec {
	return []api.FieldSpec{
		spec(2, api.ClassN, 2, 19), spec(3, api.ClassN, 0, 6), spec(4, api.ClassN, 0, 12), spec(7, api.ClassN, 0, 10), spec(11, api.ClassN, 0, 6),
		spec(12, api.ClassN, 0, 6), spec(13, api.ClassN, 0, 4), spec(14, api.ClassN, 0, 4), spec(22, api.ClassAN, 0, 3), spec(25, api.ClassN, 0, 2),
		spec(32, api.ClassN, 2, 11), spec(35, api.ClassZ, 2, 37), spec(37, api.ClassAN, 0, 12), spec(38, api.ClassAN, 0, 6), spec(39, api.ClassAN, 0, 2),
		spec(41, api.ClassANS, 0, 8), spec(42, api.ClassANS, 0, 15), spec(48, api.ClassS, 3, 200), spec(49, api.ClassN, 0, 3), spec(52, api.ClassB, 0, 8),
		spec(55, api.ClassT, 3, 100), spec(60, api.ClassANS, 3, 500), spec(66, api.ClassN, 0, 1), spec(70, api.ClassN, 0, 3),
		spec(74, api.ClassN, 0, 10), spec(75, api.ClassN, 0, 10), spec(76, api.ClassN, 0, 10), spec(77, api.ClassN, 0, 10),
		spec(86, api.ClassN, 0, 16), spec(87, api.ClassN, 0, 16), spec(88, api.ClassN, 0, 16), spec(89, api.ClassN, 0, 16), spec(90, api.ClassN, 0, 42),
		spec(128, api.ClassB, 0, 8),
	}
}

// rulesOf let all types have all fields; must: those that each must have.
func rulesOf(version int, all []api.FieldSpec, must ...int) []api.Rule {
	var may []int
	for _, s := range all {
		if !slices.Contains(must, s.Number) {
			may = append(may, s.Number)
		}
	}
	var l []api.Rule
	for _, mti := range allTypes {
		l = append(l, api.Rule{MTI: strconv.Itoa(version) + mti, Must: slices.Clone(must), May: slices.Clone(may)})
	}
	return l
}

// plain is a dialect without tags, sealed one with a tag in field 128, late one of the other version, in other encodings.
func plain() api.Dialect {
	return api.Dialect{Name: "plain", MTIEnc: api.ASCII, MapEnc: api.ASCII, Fields: specs(), Rules: rulesOf(0, specs())}
}

func sealed() api.Dialect {
	return api.Dialect{Name: "sealed", MTIEnc: api.BCD, MapEnc: api.BINARY, Fields: specs(), Rules: rulesOf(0, specs(), 128), MAC: 128}
}

func late() api.Dialect {
	all := specs()
	for i, s := range all {
		switch {
		case s.Class == api.ClassN:
			all[i].Enc = api.BCD
		case s.Enc == api.ASCII && s.Class != api.ClassS:
			all[i].Enc = api.EBCDIC
		}
		if s.Digits > 0 {
			all[i].LenEnc, all[i].Digits = api.BINARY, 4
		}
	}
	return api.Dialect{Name: "late", Version: 1, MTIEnc: api.EBCDIC, MapEnc: api.EBCDIC, Fields: all, Rules: rulesOf(1, all, 128), MAC: 128}
}

const (
	shopPIN  = "PIN key of shop."
	bankPIN  = "PIN key of bank."
	tillKey  = "till's k"
	vaultKey = "this is vault's."
	exchange = "exchange keys..."
)

// config is a switch of two acquirers and two issuers, one of each with tags.
func config() api.Config {
	return api.Config{
		Dialects: []api.Dialect{plain(), sealed(), late()},
		Links: []api.Link{
			{Name: "shop", Role: api.Acquirer, Header: api.HeadFour, Most: 999, ID: "7", PIN: shopPIN, Answer: 2},
			{Name: "bank", Role: api.Issuer, Header: api.HeadTwo, Most: 999, ID: "8", PIN: bankPIN, Answer: 1000},
			{Name: "till", Role: api.Acquirer, Dialect: 1, Header: api.HeadBCD, Most: 9999, ID: "12345678901", MAC: 1, Pad: 1, Key: tillKey, Exchange: exchange, Answer: 1},
			{Name: "vault", Role: api.Issuer, Dialect: 2, Header: api.HeadWhole, Most: 900, ID: "9", MAC: 3, Pad: 2, Key: vaultKey, Exchange: exchange, Answer: 1000},
		},
		Groups: []api.Group{
			{Name: "gold", Links: []int{1, 3}, Standin: api.Limits{Single: 5000, Count: 2, Sum: 8000, Window: 60}},
			{Name: "blue", Links: []int{3}, Standin: api.Limits{Single: 100, Count: 1, Sum: 100, Window: 10}},
		},
		Routes: []api.Route{{Prefix: "4"}, {Prefix: "42", Group: 1}, {Prefix: "5", Group: 1}},
		Start:  848059200, Pending: 3, Timeout: 5, Late: 10, Queue: 2, Retry: 4, Tries: 2, Cards: 3, Numbers: 999999,
	}
}

// doc is the configuration of the document's examples.
func doc() api.Config {
	c := config()
	numbers := []int{2, 3, 4, 7, 11, 32, 37, 38, 39, 70, 90}
	fields := slices.DeleteFunc(specs(), func(s api.FieldSpec) bool { return !slices.Contains(numbers, s.Number) })
	c.Dialects = []api.Dialect{{Name: "plain", MTIEnc: api.ASCII, MapEnc: api.ASCII, Fields: fields, Rules: rulesOf(0, fields)}}
	c.Links = c.Links[:2]
	for i := range c.Links {
		c.Links[i].PIN = ""
	}
	c.Links[1].Echo, c.Links[1].Answer = 50, 3
	c.Groups = c.Groups[:1]
	c.Groups[0].Links = []int{1}
	c.Routes = c.Routes[:1]
	c.Pending = 2
	return c
}

// message is what a line says: a type, and fields as `2=4111`; `$` is ahead of bytes in sixteenths, `_` stands for a blank. Of the class T and S the value is the bytes of the Kids.
func message(d api.Dialect, words []string) api.Message {
	m := api.Message{MTI: words[0]}
	for _, w := range words[1:] {
		number, value, ok := strings.Cut(w, "=")
		n, err := strconv.Atoi(number)
		if !ok || err != nil {
			panic("the test's line has " + w)
		}
		m.Fields = append(m.Fields, fieldOf(d, n, bytesOf(value)))
	}
	slices.SortFunc(m.Fields, func(a, b api.Field) int { return a.Number - b.Number })
	return m
}

func bytesOf(value string) string {
	if !strings.HasPrefix(value, "$") {
		return strings.ReplaceAll(value, "_", " ")
	}
	b, err := hex.DecodeString(value[1:])
	if err != nil {
		panic("the test's line has " + value)
	}
	return string(b)
}

func classOf(d api.Dialect, number int) int {
	for _, s := range d.Fields {
		if s.Number == number {
			return s.Class
		}
	}
	return 0
}

func fieldOf(d api.Dialect, number int, b string) api.Field {
	var l []api.Node
	var e api.Errno
	switch classOf(d, number) {
	case api.ClassT:
		l, e, _ = tlv.Parse(b)
	case api.ClassS:
		l, e, _ = tlv.ParseSub(b)
	default:
		return api.Field{Number: number, Value: b}
	}
	if e != api.OK {
		panic("the test's line has wrong nodes")
	}
	return api.Field{Number: number, Kids: l}
}

// line is a message as a line says it.
func line(m api.Message, d api.Dialect) string {
	words := []string{m.MTI}
	for _, f := range m.Fields {
		b := f.Value
		switch classOf(d, f.Number) {
		case api.ClassT:
			b, _ = tlv.Build(f.Kids)
		case api.ClassS:
			b, _ = tlv.BuildSub(f.Kids)
		}
		words = append(words, strconv.Itoa(f.Number)+"="+word(b))
	}
	return strings.Join(words, " ")
}

func word(b string) string {
	if strings.ContainsFunc(b, func(r rune) bool { return r < 32 || r > 126 || r == '_' || r == '$' }) {
		return "$" + strings.ToUpper(hex.EncodeToString([]byte(b)))
	}
	return strings.ReplaceAll(b, " ", "_")
}

// frames makes and reads frames of a configuration's links; keys are those of the links' tags at the moment.
type frames struct {
	c    api.Config
	keys []string
}

func newFrames(c api.Config) *frames {
	x := &frames{c: c}
	for _, l := range c.Links {
		x.keys = append(x.keys, l.Key)
	}
	return x
}

func (x *frames) dialect(link int) api.Dialect { return x.c.Dialects[x.c.Links[link].Dialect] }

// tag is that of bytes that go over a link.
func (x *frames) tag(link int, b string) string {
	l := x.c.Links[link]
	tag, e := seal.Tag(l.MAC, l.Pad, x.keys[link], b)
	if e != api.OK {
		panic("the test's key makes no tag")
	}
	return tag
}

// of is a message as bytes that come over a link, with its tag, if it has tags.
func (x *frames) of(link int, m api.Message) string {
	l, d := x.c.Links[link], x.dialect(link)
	if l.MAC != 0 {
		m.Fields = append(slices.Clone(m.Fields), api.Field{Number: d.MAC, Value: "nothing."})
	}
	b, e, n := tree.Build(d, m)
	if e != api.OK {
		panic(fmt.Sprintf("the test's message is refused: %s %d: %.200s", nameOf(e), n, line(m, d)))
	}
	if l.MAC != 0 {
		b = b[:len(b)-8] + x.tag(link, b[:len(b)-8])
	}
	return b
}

// wrapped is bytes behind their header.
func (x *frames) wrapped(link int, b string) string {
	whole, e := frame.Wrap(x.c.Links[link].Header, 9999, b)
	if e != api.OK {
		panic("the test's message has no frame")
	}
	return whole
}

// read is a frame that goes over a link as a line; the tag must be right, and is left out.
func (x *frames) read(t *testing.T, link int, b string) string {
	t.Helper()
	m := x.readMessage(t, link, b)
	return line(m, x.dialect(link))
}

func (x *frames) readMessage(t *testing.T, link int, b string) api.Message {
	t.Helper()
	l, d := x.c.Links[link], x.dialect(link)
	s, _ := frame.New(l.Header, l.Most)
	whole, e := s.Feed([]byte(b))
	if e != api.OK || len(whole) != 1 || s.Waits() != 0 {
		t.Fatalf("C5: what goes to %s is no frame: %q", l.Name, b)
	}
	m, defect := tree.Parse(d, whole[0])
	if defect.Code != api.OK {
		t.Fatalf("C5: what goes to %s is no message: %v: %q", l.Name, defect, whole[0])
	}
	if l.MAC != 0 {
		at := len(whole[0]) - 8
		if whole[0][at:] != x.tag(link, whole[0][:at]) {
			t.Fatalf("C15: what goes to %s has another tag: %q", l.Name, whole[0])
		}
		m.Fields = m.Fields[:len(m.Fields)-1]
	}
	return m
}

// told is an output as a line.
func (x *frames) told(t *testing.T, o api.Output) string {
	t.Helper()
	name := x.c.Links[o.Link].Name
	var want api.Output
	var s string
	switch o.Kind {
	case api.OutFrame:
		want = api.Output{Bytes: o.Bytes}
		s = "> " + name + " " + x.read(t, o.Link, o.Bytes)
	case api.OutReject:
		want = api.Output{Code: o.Code, At: o.At}
		s = "! " + name + " " + nameOf(o.Code) + " " + strconv.Itoa(o.At)
	case api.OutClose:
		want = api.Output{Code: o.Code}
		s = "x " + name + " " + nameOf(o.Code)
	default:
		t.Fatalf("C2: an output of the kind %d", o.Kind)
	}
	want.Kind, want.Link = o.Kind, o.Link
	if o != want {
		t.Fatalf("C2: an output has more than is told: %+v", o)
	}
	return s
}

// pair is a switch of either stack, of one configuration, to which the same happens.
type pair struct {
	*frames
	t    *testing.T
	s    [2]*core.Switch
	seen map[string]int // words of what went out, and how often
}

func newPair(t *testing.T, c api.Config) *pair {
	t.Helper()
	p := &pair{frames: newFrames(c), t: t, seen: map[string]int{}}
	for i, stack := range []int{core.Tree, core.Scan} {
		s, e, n := core.New(c, stack)
		if s == nil || e != api.OK || n != 0 {
			t.Fatalf("C1: New is %s, %d", nameOf(e), n)
		}
		p.s[i] = s
	}
	p.alike()
	return p
}

// step does one event with both: what comes of it, which must be the same.
func (p *pair) step(e api.Event) ([]api.Output, api.Errno) {
	p.t.Helper()
	l, code := p.s[0].Step(e)
	k, other := p.s[1].Step(e)
	if code != other || !slices.Equal(l, k) {
		p.t.Fatalf("C13: of %+v with one stack %s, %+v; with the other %s, %+v", e, nameOf(code), l, nameOf(other), k)
	}
	if code != api.OK && l != nil {
		p.t.Fatalf("P2: with %s come %+v", nameOf(code), l)
	}
	return l, code
}

// steps is step, with its outputs as lines.
func (p *pair) steps(e api.Event) []string {
	p.t.Helper()
	l, code := p.step(e)
	if code == api.ErrEvent {
		return []string{"?"}
	}
	if code != api.OK {
		p.t.Fatalf("C2: Step of %+v is %s", e, nameOf(code))
	}
	var lines []string
	for _, o := range l {
		lines = append(lines, p.told(p.t, o))
	}
	for _, s := range lines {
		for _, w := range strings.Fields(s) {
			p.seen[w]++
		}
	}
	return lines
}

// alike holds that all that can be seen of both is the same, and within its bounds (C16).
func (p *pair) alike() {
	p.t.Helper()
	v := fmt.Sprintf("%+v", p.s[0].View())
	if o := fmt.Sprintf("%+v", p.s[1].View()); v != o {
		p.t.Fatalf("C13: with one stack View is %s; with the other %s", v, o)
	}
	if w, o := fmt.Sprintf("%+v", p.s[0].Waiting()), fmt.Sprintf("%+v", p.s[1].Waiting()); w != o {
		p.t.Fatalf("C13: with one stack %s wait; with the other %s", w, o)
	}
	for i := range p.c.Links {
		if q, o := fmt.Sprintf("%+v", p.s[0].Queued(i)), fmt.Sprintf("%+v", p.s[1].Queued(i)); q != o {
			p.t.Fatalf("C13: with one stack %s wait for link %d; with the other %s", q, i, o)
		}
	}
	p.bounded()
}

func (p *pair) bounded() {
	p.t.Helper()
	v := p.s[0].View()
	if v.Pending > p.c.Pending || v.Late > p.c.Pending || v.Pending != len(p.s[0].Waiting()) {
		p.t.Fatalf("C16: of at most %d %d wait (%d), and %d are remembered", p.c.Pending, v.Pending, len(p.s[0].Waiting()), v.Late)
	}
	for i, n := range v.Queued {
		if n > p.c.Queue || n != len(p.s[0].Queued(i)) {
			p.t.Fatalf("C16: of at most %d %d are queued (%d) for link %d", p.c.Queue, n, len(p.s[0].Queued(i)), i)
		}
	}
}

// number is that of the link of a name.
func (p *pair) number(name string) int {
	n := slices.IndexFunc(p.c.Links, func(l api.Link) bool { return l.Name == name })
	if n < 0 {
		panic("the test names the link " + name)
	}
	return n
}

// event is what a line says that happens.
func (p *pair) event(words []string) api.Event {
	if words[0] == "tick" {
		n, err := strconv.Atoi(words[1])
		if err != nil {
			panic("the test's line has " + words[1])
		}
		return api.Event{Kind: api.EvTick, N: n}
	}
	link := p.number(words[1])
	e := api.Event{Link: link}
	switch words[0] {
	case "up":
		e.Kind = api.EvUp
	case "down":
		e.Kind = api.EvDown
	case "in":
		e.Kind, e.Bytes = api.EvBytes, p.wrapped(link, p.of(link, message(p.dialect(link), words[2:])))
	case "newkey": // that is the link's key behind what comes
		e.Kind, e.Bytes = api.EvBytes, p.wrapped(link, p.of(link, message(p.dialect(link), words[3:])))
	case "forged":
		b := []byte(p.of(link, message(p.dialect(link), words[2:])))
		b[len(b)-1] ^= 1
		e.Kind, e.Bytes = api.EvBytes, p.wrapped(link, string(b))
	case "raw":
		e.Kind, e.Bytes = api.EvBytes, bytesOf(words[2])
	default:
		panic("the test's line has " + words[0])
	}
	return e
}

// asked is what a line that begins with a `=` asks of what can be seen.
func (p *pair) asked(words []string) string {
	v := p.s[0].View()
	switch words[1] {
	case "all":
		return fmt.Sprintf("= all now %d pending %d late %d", v.Now, v.Pending, v.Late)
	case "waits":
		s := "= waits"
		for _, w := range p.s[0].Waiting() {
			s += fmt.Sprintf(" %s>%s:%d", p.c.Links[w.From].Name, p.c.Links[w.To].Name, w.Number)
		}
		return s
	}
	link := p.number(words[1])
	switch words[2] {
	case "counts":
		return "= " + words[1] + " counts " + strings.Trim(fmt.Sprint(v.Counts[link]), "{}")
	case "queue":
		s := "= " + words[1] + " queue"
		for _, a := range p.s[0].Queued(link) {
			s += fmt.Sprintf(" %s:%d", a.Message.MTI, a.Number)
		}
		return s
	}
	up, ready := "down", "off"
	if v.Up[link] {
		up = "up"
	}
	if v.Ready[link] {
		ready = "ready"
	}
	return fmt.Sprintf("= %s %s %s held %d queued %d dead %d keys %d", words[1], up, ready, v.Held[link], v.Queued[link], v.Dead[link], v.Keys[link])
}

// key makes tags of a link by another key from now on.
func (p *pair) key(words []string) { p.keys[p.number(words[1])] = bytesOf(words[2]) }

// plays does what a script says, line by line: what happens; behind it each output (`>`, `!`, `x`; `?`: the event is refused), all of them; and, with a `=` ahead, what can be seen then.
func (p *pair) plays(script string) {
	p.t.Helper()
	var left []string
	done := "(the beginning)"
	for _, s := range strings.Split(script, "\n") {
		words := strings.Fields(s)
		if len(words) == 0 || words[0] == "#" {
			continue
		}
		s = strings.Join(words, " ")
		switch words[0] {
		case ">", "!", "x", "?":
			if len(left) == 0 || left[0] != s {
				p.t.Fatalf("behind `%.200s` comes %.500q; must be `%.200s`", done, left, s)
			}
			left = left[1:]
		case "=":
			if is := p.asked(words); is != s {
				p.t.Fatalf("behind `%s` is seen `%s`; must be `%s`", done, is, s)
			}
		default:
			if len(left) > 0 {
				p.t.Fatalf("behind `%.200s` comes %.500q, too", done, left)
			}
			if words[0] == "key" {
				p.key(words)
				continue
			}
			e := p.event(words)
			if words[0] == "newkey" {
				p.key(words)
			}
			left, done = p.steps(e), s
			p.alike()
		}
	}
	if len(left) > 0 {
		p.t.Fatalf("behind `%.200s` comes %.500q, too", done, left)
	}
}

// played is a pair with which some scripts were played.
func played(t *testing.T, c api.Config, scripts ...string) *pair {
	t.Helper()
	p := newPair(t, c)
	for _, s := range scripts {
		p.plays(s)
	}
	return p
}

// queued holds what is queued for a link at a place: the message, and, when it is sent again, the same with the type's last digit 1.
func (p *pair) queued(name string, at int, want string) {
	p.t.Helper()
	link := p.number(name)
	a := p.s[0].Queued(link)[at]
	again := want[:3] + "1" + want[4:]
	d := p.c.Dialects[0] // all dialects of the tests have the same classes
	if a.Link != link || line(a.Message, d) != want || line(a.Repeat, d) != again || fmt.Sprintf("%06d", a.Number) != value(a.Message, 11) {
		p.t.Fatalf("C5: queued is %+v; must be `%s`", a, want)
	}
}

func value(m api.Message, number int) string {
	for _, f := range m.Fields {
		if f.Number == number {
			return f.Value
		}
	}
	return ""
}
