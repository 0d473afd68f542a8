package shell_test

import (
	"fmt"
	"hash/crc32"
	"slices"
	"strings"
	"testing"

	"turnstile/api"
	"turnstile/core"
	"turnstile/journal"
)

// What `check` tells.

func up(link int) api.Event              { return api.Event{Kind: api.EvUp, Link: link} }
func down(link int) api.Event            { return api.Event{Kind: api.EvDown, Link: link} }
func tick(n int) api.Event               { return api.Event{Kind: api.EvTick, N: n} }
func bytes(link int, b string) api.Event { return api.Event{Kind: api.EvBytes, Link: link, Bytes: b} }

// sumOf is the sum of the journal of some events, which happen to a switch, as it is told.
func sumOf(c api.Config, l ...api.Event) string {
	s, _, _ := core.New(c, core.Scan)
	j := journal.New()
	for _, e := range l {
		outputs, code := s.Step(e)
		if code != api.OK {
			panic(fmt.Sprintf("the test's event %+v is refused", e))
		}
		if err := j.Append(journal.Entry{Event: e, Outputs: outputs}); err != nil {
			panic(err)
		}
	}
	return fmt.Sprintf("%08X", crc32.ChecksumIEEE([]byte(j.Bytes())))
}

func TestCheck(t *testing.T) {
	c := doc()
	sign := "00550800822000000000000004000000000000001115115900000009001"
	plays(t, c, `
		check
		| journal 0 00000000 same
		up shop
		check
		| journal 1 `+sumOf(c, up(0))+` same
		up shop
		| ? 243
		down bank
		| ? 243
		send shop 0800 70=x
		| ? 107
		view
		| time 2026-11-15 12:00:00 ticks 0 pending 0 late 0
		| shop up off held 0 queued 0 dead 0 keys 0 0 0 0 0 0 0 0 0 0 0 0 0
		| bank down off held 0 queued 0 dead 0 keys 0 0 0 0 0 0 0 0 0 0 0 0 0
		waiting
		queued bank
		key shop 00
		check
		| journal 1 `+sumOf(c, up(0))+` same
		check
		| journal 1 `+sumOf(c, up(0))+` same
		bytes shop `+sixteenths(sign)+`
		| > shop 0810 7=1115115900 11=000009 39=00 70=001
		tick 7
		up bank
		| > bank 0800 7=1115120007 11=000001 70=001
		down bank
		check
		| journal 5 `+sumOf(c, up(0), bytes(0, sign), tick(7), up(1), down(1))+` same
		send shop 0800 7=1115115900 11=000009 70=001
		| > shop 0810 7=1115115900 11=000009 39=00 70=001
		check
		| journal 6 `+sumOf(c, up(0), bytes(0, sign), tick(7), up(1), down(1), bytes(0, sign))+` same`)
}

// TestEightSixteenths: a sum has them all, noughts ahead too.
func TestEightSixteenths(t *testing.T) {
	c := doc()
	seen := 0
	for n := 1; n < 400; n++ {
		sum := sumOf(c, tick(n))
		if sum[0] == '0' {
			seen++
			plays(t, c, fmt.Sprintf("tick %d\ncheck\n| journal 1 %s same", n, sum))
		}
	}
	if seen < 10 {
		t.Errorf("the test saw only %d sums that begin with a nought", seen)
	}
}

// muchAsked is how many requests wait, so that behind them one tick has more outputs than an entry may have.
const muchAsked = 590

// muchOf is a configuration of few words, and what makes the requests wait.
func muchOf() (api.Config, string) {
	c := config()
	c.Pending, c.Queue, c.Timeout, c.Late, c.Retry, c.Tries = 10000, 10000, 1, 1, 1, 100
	c.Dialects = c.Dialects[:1]
	c.Dialects[0].Rules = slices.DeleteFunc(c.Dialects[0].Rules, func(r api.Rule) bool { return !strings.Contains("0200 0210 0420 0421 0800 0810", r.MTI) })
	c.Links, c.Groups, c.Routes = c.Links[:2], c.Groups[:1], c.Routes[:1]
	c.Groups[0].Links = []int{1}
	var b strings.Builder
	b.WriteString("up shop\nup bank\nsend bank 0810 39=00 70=001\nsend shop 0800 70=001\n")
	for n := range muchAsked {
		fmt.Fprintf(&b, "send shop 0200 2=4111111111111111 3=000000 4=%012d 11=%06d 12=120000 13=1115 41=terminal 42=the_shop_of_all 49=840\n", n, n)
	}
	return c, b.String()
}

// TestLost: what does not fit is left out, and all behind it.
func TestLost(t *testing.T) {
	c, ahead := muchOf()
	entries := 4 + muchAsked
	script := printed(c) + "go\n" + ahead
	before := runs(t, script+"check\n")
	check := before[strings.LastIndex(before, "journal "):]
	var sum string
	if n, err := fmt.Sscanf(check, fmt.Sprintf("journal %d %%s same\n", entries), &sum); n != 1 || err != nil {
		t.Fatalf("S4: check tells %q", check)
	}
	lost := fmt.Sprintf("journal %d %s lost\n", entries, sum)
	is := runs(t, script+"check\ntick 100000\ncheck\ntick 1\ndown shop\nview\ncheck\n")
	rest, ok := strings.CutPrefix(is, before)
	if !ok || len(rest) < 10_000_000 {
		t.Fatalf("the test's tick tells only %d bytes", len(rest))
	}
	at := strings.Index(rest, "journal ")
	want := lost + fmt.Sprintf(`time 2026-11-16 15:46:41 ticks 100001 pending 0 late 0
shop down off held 0 queued 0 dead 0 keys 0 %d 0 %d 0 0 0 0 0 0 0 0 0
bank up ready held 0 queued 0 dead %d keys 0 0 0 0 0 0 0 0 0 0 0 0 0
`, muchAsked, muchAsked, muchAsked) + lost
	tells(t, rest[at:], want)
	if n := strings.Count(rest[:at], "> bank 0421 "); n != muchAsked*99 {
		t.Errorf("S4: %d reversals are told once more; must be %d", n, muchAsked*99)
	}
}
