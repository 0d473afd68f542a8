package core_test

import (
	"fmt"
	"math/rand"
	"slices"
	"strings"
	"testing"

	"turnstile/api"
	"turnstile/pin"
)

func oneOf[T any](r *rand.Rand, l ...T) T { return l[r.Intn(len(l))] }

// someConfig is config with small numbers, so that all that has an end comes to it.
func someConfig(r *rand.Rand) api.Config {
	c := config()
	c.Pending, c.Timeout, c.Late = 1+r.Intn(4), 1+r.Intn(6), 1+r.Intn(8)
	c.Queue, c.Retry, c.Tries = 1+r.Intn(3), 1+r.Intn(4), 1+r.Intn(3)
	c.Cards, c.Numbers = 1+r.Intn(3), oneOf(r, 1+r.Intn(4), 3+r.Intn(8), 999999)
	for i := range c.Links {
		c.Links[i].Echo, c.Links[i].Answer = oneOf(r, 0, 0, 1, 4, 12), 1+r.Intn(5)
		if r.Intn(4) == 0 {
			c.Links[i].PIN = ""
		}
		if c.Links[i].PIN == "" && r.Intn(2) == 0 {
			c.Links[i].PIN = oneOf(r, shopPIN, bankPIN)
		}
	}
	for i := range c.Groups {
		c.Groups[i].Standin = api.Limits{Single: oneOf(r, 0, 100, 5000), Count: r.Intn(4), Sum: oneOf(r, 100, 150, 8000), Window: 1 + r.Intn(20)}
	}
	c.Groups[0].Links = oneOf(r, []int{1}, []int{1, 3}, []int{3, 1})
	if r.Intn(3) == 0 {
		must(&c, 0, oneOf(r, "0200", "0210", "0220", "0420", "0810"), 60)
		must(&c, 2, oneOf(r, "1100", "1200", "1200", "1220", "1420"), 60)
	}
	return c
}

// player makes events of all kinds, such as may come to something at the moment; it knows what came ahead.
type player struct {
	*pair
	lax   *frames // by it messages are made without fields that must be there
	r     *rand.Rand
	asked []string // what field 90 says of requests that were sent
	cut   [4]string
}

func newPlayer(t *testing.T, r *rand.Rand, c api.Config) *player {
	t.Helper()
	p := &player{pair: newPair(t, c), r: r}
	c.Dialects = config().Dialects
	p.lax = &frames{c: c, keys: p.keys}
	return p
}

func (p *player) event() api.Event {
	r := p.r
	v := p.s[0].View()
	link := r.Intn(len(p.c.Links))
	switch n := r.Intn(100); {
	case n < 12:
		return api.Event{Kind: api.EvTick, N: oneOf(r, 1, 1, 1, 1, 2, 3, 5, r.Intn(12))}
	case n < 14:
		return api.Event{Kind: api.EvDown, Link: link}
	case n < 15:
		return api.Event{Kind: oneOf(r, edges...), Link: oneOf(r, edges...), N: oneOf(r, edges...)}
	}
	if !v.Up[link] {
		return api.Event{Kind: api.EvUp, Link: link}
	}
	b := p.bytes(link)
	for r.Intn(5) == 0 {
		b += p.bytes(link)
	}
	if p.cut[link] != "" && v.Held[link] > 0 {
		b, p.cut[link] = p.cut[link]+b, ""
	} else if p.cut[link] = ""; r.Intn(8) == 0 {
		at := r.Intn(len(b))
		b, p.cut[link] = b[:at], b[at:]
	}
	return api.Event{Kind: api.EvBytes, Link: link, Bytes: b}
}

// bytes are those of a message over a link, mostly.
func (p *player) bytes(link int) string {
	r := p.r
	if r.Intn(60) == 0 {
		return oneOf(r, "00x0", "\xff\xff\xff\xff", "\x00\x01", "9999")
	}
	m := message(p.dialect(link), strings.Fields(p.line(link)))
	b := p.lax.of(link, m)
	switch r.Intn(25) {
	case 0:
		turned := []byte(b)
		turned[r.Intn(len(b))] ^= byte(1 << r.Intn(8))
		b = string(turned)
	case 1:
		b = b[:1+r.Intn(len(b))]
	}
	return p.wrapped(link, b)
}

// line is what a message over a link may be.
func (p *player) line(link int) string {
	r, v := p.r, p.s[0].View()
	mti := func(s string) string { return fmt.Sprint(p.dialect(link).Version) + s }
	if n := r.Intn(12); n == 0 || n < 9 && !v.Ready[link] {
		return p.network(link, mti)
	} else if n == 1 {
		return mti(oneOf(r, allTypes...)) + p.some(link)
	}
	if p.c.Links[link].Role == api.Acquirer {
		switch r.Intn(10) {
		case 0, 1:
			return mti(oneOf(r, "120", "121", "220")) + p.some(link)
		case 2, 3:
			return mti(oneOf(r, "420", "421")) + p.some(link) + p.original(link)
		case 4:
			return mti("500") + " 11=000001" + oneOf(r, "", " 76=0000000001", " 76=0000000000 88=0000000000000000", fmt.Sprintf(" 76=%010d 88=%016d", v.Counts[link].Debits, v.Counts[link].DebitSum))
		}
		s := mti(oneOf(r, "100", "200", "200", "201")) + p.some(link)
		p.asks(s)
		return s
	}
	if q := p.s[0].Queued(link); len(q) > 0 && r.Intn(2) == 0 {
		return mti(oneOf(r, "130", "230", "430")) + fmt.Sprintf(" 11=%06d", oneOf(r, q[0].Number, q[0].Number, q[0].Number, q[len(q)-1].Number))
	}
	number := r.Intn(12)
	for _, w := range p.s[0].Waiting() {
		if w.To == link && r.Intn(3) > 0 {
			number = w.Number
		}
	}
	return mti(oneOf(r, "110", "210", "210")) + fmt.Sprintf(" 11=%06d", number) + oneOf(r, " 39=00", " 39=00", " 39=91", "") + oneOf(r, "", " 37=issuer______ 38=A1B2C3", " 7=0101000000 32=88 60=x")
}

func (p *player) network(link int, mti func(string) string) string {
	r := p.r
	switch r.Intn(8) {
	case 0:
		return mti("800") + oneOf(r, " 70=002", " 70=301", " 70=777", "")
	case 1:
		return mti("810") + oneOf(r, " 39=00 70=301", " 70=301", " 39=91 70=001", " 39=00", "")
	case 2:
		key := textOf(r, len(p.keys[link]))
		if key == "" {
			key = textOf(r, 8)
		}
		check := checkOf(key)
		if r.Intn(4) == 0 {
			check = oneOf(r, "", "FFFFFF", strings.ToLower(check), check+"0")
		}
		return mti("800") + " 48=" + sub(1, wrappedKey(key)) + sub(2, check) + " 70=101"
	}
	if p.c.Links[link].Role == api.Acquirer {
		return mti("800") + " 7=1115115900 70=001"
	}
	return mti("810") + " 39=00 70=001"
}

func textOf(r *rand.Rand, n int) string {
	b := make([]byte, n)
	for i := range b {
		b[i] = byte(r.Intn(256))
	}
	return string(b)
}

// some are fields of requests, advices and reversals.
func (p *player) some(link int) string {
	r := p.r
	pan := oneOf(r, "4111111111111111", "4111111111111111", "4242424242424242", "5555555555554444")
	if r.Intn(12) == 0 {
		pan = oneOf(r, "4111111111111112", "6011111111111117", "41")
	}
	s := oneOf(r, " 2="+pan, " 2="+pan, " 2="+pan, " 2="+pan, " 35="+pan+"=30122011234", " 35="+pan+"=2610201")
	s += oneOf(r, " 4=000000000100", " 4=000000000050", " 4=000000000101", " 4=000000000000", "")
	s += oneOf(r, " 7=1115115958", " 7=1115115959", "") + fmt.Sprintf(" 11=%06d", r.Intn(6))
	s += oneOf(r, "", "", " 3=200000", " 3=003000") + oneOf(r, "", "", " 41=terminal", " 41=the_till") + oneOf(r, "", " 60=text") + oneOf(r, "", "", " 32=99 37=reference012")
	if r.Intn(10) == 0 {
		s += oneOf(r, " 14=2610", " 14=2611", " 14=2713", " 14=3012")
	}
	if r.Intn(6) == 0 {
		b, e := pin.Seal(oneOf(r, shopPIN, shopPIN, bankPIN), 0, "1234", oneOf(r, pan, pan, "4111111111111111"), "")
		if e != api.OK || r.Intn(4) == 0 {
			b = textOf(r, 8)
		}
		s += " 52=$" + sixteenths(b)
	}
	return s
}

// asks keeps what a reversal of a request would say.
func (p *player) asks(s string) {
	number, stamp := "000000", "0000000000"
	for _, w := range strings.Fields(s) {
		if v, ok := strings.CutPrefix(w, "11="); ok {
			number = v
		}
		if v, ok := strings.CutPrefix(w, "7="); ok {
			stamp = v
		}
	}
	p.asked = append(p.asked, s[:4]+number+stamp)
	p.asked = p.asked[max(0, len(p.asked)-6):]
}

func (p *player) original(link int) string {
	r := p.r
	if len(p.asked) == 0 || r.Intn(12) == 0 {
		return oneOf(r, "", " 90="+strings.Repeat("0", 42), " 90=0200000001"+strings.Repeat("1", 32))
	}
	return " 90=" + oneOf(r, p.asked...) + strings.Repeat("0", 22)
}

// both is a player with the second reading.
type both struct {
	*player
	m *model
}

func newBoth(t *testing.T, r *rand.Rand, c api.Config) *both {
	t.Helper()
	return &both{player: newPlayer(t, r, c), m: newModel(c)}
}

// plays does some event, and holds what comes of it against the second reading.
func (b *both) plays() {
	b.t.Helper()
	e := b.event()
	l, code := b.step(e)
	want, ok := b.m.step(e)
	for i, x := range b.m.links {
		b.keys[i] = x.Key
	}
	if ok != (code == api.OK) || !slices.Equal(l, want) {
		b.t.Fatalf("of %+v comes %s, %s; by the second reading %v, %s", e, nameOf(code), b.lines(l), ok, b.lines(want))
	}
	b.stands()
}

// lines are outputs as far as they can be read.
func (b *both) lines(l []api.Output) string {
	var s []string
	for _, o := range l {
		if o.Kind == api.OutFrame {
			s = append(s, fmt.Sprintf("> %d %q", o.Link, o.Bytes))
		} else {
			s = append(s, fmt.Sprintf("%+v", o))
		}
	}
	return strings.Join(s, "\n")
}

func (b *both) stands() {
	b.t.Helper()
	b.alike()
	if is, want := fmt.Sprint(b.s[0].View()), fmt.Sprint(b.m.view()); is != want {
		b.t.Fatalf("C4: View is %s; by the second reading %s", is, want)
	}
	if is, want := seenWaiting(b.s[0].Waiting()), b.m.waiting(); is != want {
		b.t.Fatalf("C4: Waiting is %s; by the second reading %s", is, want)
	}
	for i := range b.c.Links {
		if is, want := seenQueued(b.s[0].Queued(i)), b.m.queued(i); is != want {
			b.t.Fatalf("C4: Queued is %s; by the second reading %s", is, want)
		}
	}
}

// TestAnything: long lists of events on many configurations, held against the second reading at each step.
func TestAnything(t *testing.T) {
	r := rand.New(rand.NewSource(2401))
	codes, kinds := map[string]int{}, map[string]int{}
	for range 150 {
		b := newBoth(t, r, someConfig(r))
		for range 250 {
			b.plays()
			for _, o := range b.m.out {
				kinds[fmt.Sprint(o.Kind, " ", nameOf(o.Code))]++
			}
		}
		for code, n := range b.m.codes {
			codes[code] += n
		}
		for _, l := range b.m.links {
			kinds["dead"] += l.dead
			kinds["new keys"] += l.rounds
		}
	}
	for _, code := range strings.Fields("00 12 13 14 15 21 25 30 54 55 68 81 91 95 96") {
		if codes[code] < 20 {
			t.Errorf("the test saw the code %s only %d times", code, codes[code])
		}
	}
	for _, kind := range []string{"1 0", "2 ErrTwice", "2 ErrNone", "2 ErrOff", "2 ErrKind", "2 ErrSeal", "2 ErrSpent", "2 ErrQueue", "2 ErrMust", "2 DefShort", "2 DefRule", "3 ErrHeader", "3 ErrLong", "3 ErrState", "dead", "new keys"} {
		if kinds[kind] < 20 {
			t.Errorf("the test saw outputs `%s` only %d times", kind, kinds[kind])
		}
	}
}
