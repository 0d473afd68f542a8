package shell_test

import (
	"fmt"
	"math/rand"
	"slices"
	"strings"
	"testing"

	"turnstile/api"
	"turnstile/cipher"
	"turnstile/core"
	"turnstile/pin"
	"turnstile/shell"
)

// Long scripts of all commands (S4), and what follows: S5, T1 and T7.

// lively is config with small numbers, so that all that has an end comes to it.
func lively(r *rand.Rand) api.Config {
	c := config()
	c.Start = oneOf(r, 848059200, 848059200, 0, api.MaxMoment-5)
	c.Pending, c.Timeout, c.Late = 1+r.Intn(4), 1+r.Intn(6), 1+r.Intn(8)
	c.Queue, c.Retry, c.Tries = 1+r.Intn(3), 1+r.Intn(4), 1+r.Intn(3)
	c.Cards, c.Numbers = 1+r.Intn(3), oneOf(r, 3+r.Intn(8), 999999)
	for i := range c.Links {
		c.Links[i].Echo, c.Links[i].Answer, c.Links[i].Header = oneOf(r, 0, 0, 1, 4, 12), 1+r.Intn(5), 1+r.Intn(4)
		if c.Links[i].MAC != 0 {
			c.Links[i].Exchange = exchange
		}
	}
	return c
}

// writer writes a script line by line, and plays it as it goes along, so that lines come of which something may come.
type writer struct {
	*model
	r      *rand.Rand
	script strings.Builder
	asked  []string // what field 90 says of requests that were sent
	right  []string // of each link the key that the switch has
	rounds []int    // and how often that was changed
	fresh  string   // the key that was sent last
}

func newWriter(r *rand.Rand, c api.Config) *writer {
	w := &writer{model: newModel(c), r: r, rounds: make([]int, len(c.Links))}
	w.right = slices.Clone(w.keys)
	w.script.WriteString(printed(c) + "go\n")
	return w
}

// line writes a line.
func (w *writer) line(s string) {
	w.script.WriteString(s)
	if w.r.Intn(10) == 0 {
		w.script.WriteString(oneOf(w.r, " ", "# a remark", "\n", "\n# \xFF\x00", "   #"))
	}
	w.script.WriteByte('\n')
	w.does(s)
	for i, n := range w.s.View().Keys {
		if n > w.rounds[i] {
			w.rounds[i], w.right[i] = n, w.fresh
		}
	}
}

// some is a line of any kind.
func (w *writer) some() string {
	r, v := w.r, w.s.View()
	link := r.Intn(len(w.c.Links))
	name := w.c.Links[link].Name
	switch n := r.Intn(100); {
	case n < 10:
		return fmt.Sprint("tick ", oneOf(r, 1, 1, 1, 1, 2, 3, 5, 1+r.Intn(12)))
	case n < 12:
		return "down " + name
	case n < 14:
		return "up " + name
	case n < 18:
		return "view"
	case n < 21:
		return "waiting"
	case n < 24:
		return "queued " + name
	case n < 26:
		return "check"
	case n < 28:
		return "key " + name + " " + sixteenths(oneOf(r, bytesOf(r, 8), bytesOf(r, 16), "x"))
	case n < 31:
		return "bytes " + name + " " + sixteenths(oneOf(r, "0004", "0900", "\x00", "\x00\x04", "x", bytesOf(r, 1+r.Intn(20))))
	}
	if !v.Up[link] {
		return "up " + name
	}
	if w.c.Links[link].MAC != 0 && w.keys[link] != w.right[link] && r.Intn(3) > 0 {
		return "key " + name + " " + sixteenths(w.right[link])
	}
	return "send " + name + " " + w.message(link)
}

// message is what a message over a link may be, as words.
func (w *writer) message(link int) string {
	r, v := w.r, w.s.View()
	version := fmt.Sprint(w.c.Dialects[w.c.Links[link].Dialect].Version)
	n := r.Intn(12)
	switch {
	case n == 0 || n < 9 && !v.Ready[link]:
		return version + w.network(link)
	case n == 1:
		return oneOf(r, version, version, version, "0", "9") + oneOf(r, allTypes...) + w.fields() + oneOf(r, "", " 65=x", " 999=$00", " 64=x", " 66=x")
	}
	if w.c.Links[link].Role == api.Acquirer {
		switch r.Intn(10) {
		case 0, 1:
			return version + oneOf(r, "120", "121", "220") + w.fields()
		case 2, 3:
			return version + oneOf(r, "420", "421") + w.fields() + w.original()
		case 4:
			return version + "500 11=000001" + oneOf(r, "", " 76=0000000001", fmt.Sprintf(" 76=%010d 88=%016d", v.Counts[link].Debits, v.Counts[link].DebitSum))
		}
		s := version + oneOf(r, "100", "200", "200", "201") + w.fields()
		w.asks(s)
		return s
	}
	if q := w.s.Queued(link); len(q) > 0 && r.Intn(2) == 0 {
		return version + oneOf(r, "130", "230", "430") + fmt.Sprintf(" 11=%06d", q[0].Number)
	}
	number := r.Intn(12)
	for _, p := range w.s.Waiting() {
		if p.To == link && r.Intn(3) > 0 {
			number = p.Number
		}
	}
	return version + oneOf(r, "110", "210", "210") + fmt.Sprintf(" 39=%s 11=%06d", oneOf(r, "00", "00", "91"), number) + oneOf(r, "", " 4=000000001250 49=048", " 37=issuer______ 38=A1B2C3", " 3=x") + w.odd()
}

func (w *writer) network(link int) string {
	r := w.r
	switch r.Intn(8) {
	case 0:
		return "800" + oneOf(r, " 70=002", " 70=301", " 70=777", "")
	case 1:
		return "810" + oneOf(r, " 39=00 70=301", " 70=301 39=91", " 39=91 70=001", " 39=00", "")
	case 2:
		key := bytesOf(r, max(8, len(w.keys[link])))
		w.fresh = key
		under, _ := cipher.New(exchange)
		wrapped, _ := under.Encrypt(key)
		check, _ := cipher.Check(key)
		row := sub(1, sixteenths(wrapped)) + sub(2, sixteenths(check))
		return "800 70=101 48=$" + sixteenths(row)
	}
	if w.c.Links[link].Role == api.Acquirer {
		return "800 7=1115115900 70=001"
	}
	return "810 39=00 70=001"
}

func sub(tag int, value string) string { return fmt.Sprintf("%02d%02d%s", tag, len(value), value) }

// fields are some of requests, advices and reversals, in any order.
func (w *writer) fields() string {
	r := w.r
	pan := oneOf(r, "4111111111111111", "4111111111111111", "4242424242424242", "5555555555554444")
	if r.Intn(12) == 0 {
		pan = oneOf(r, "4111111111111112", "6011111111111117", "41")
	}
	s := oneOf(r, " 2="+pan, " 2="+pan, " 2="+pan, " 2="+pan, " 35="+pan+"=30122011234", " 35="+pan+"=2610201")
	s += oneOf(r, " 4=000000000100", " 4=000000000050", " 4=000000000101", " 4=000000000000", "")
	s += oneOf(r, " 7=1115115958", " 7=1115115959", "") + fmt.Sprintf(" 11=%06d", r.Intn(6))
	s += oneOf(r, "", "", " 3=200000", " 3=003000") + oneOf(r, "", "", " 41=terminal", " 41=the_till", " 41=$00000000") + oneOf(r, "", "", " 49=840", " 49=392", " 49=048", " 49=000")
	if r.Intn(6) == 0 {
		b, e := pin.Seal(oneOf(r, shopPIN, shopPIN, bankPIN), 0, "1234", oneOf(r, pan, pan, "4111111111111111"), "")
		if e != api.OK || r.Intn(4) == 0 {
			b = bytesOf(r, 8)
		}
		s += " 52=$" + sixteenths(b)
	}
	words := strings.Fields(s + w.odd())
	r.Shuffle(len(words), func(i, k int) { words[i], words[k] = words[k], words[i] })
	return " " + strings.Join(words, " ")
}

// odd are fields of other classes, said this way and that.
func (w *writer) odd() string {
	r := w.r
	if r.Intn(2) == 0 {
		return ""
	}
	s := oneOf(r, "", " 55=$5A0141", " 55=$70055A03411111", " 55=$"+sixteenths(bytesOf(r, 1+r.Intn(4))), " 55=$00", " 55=abc")
	s += oneOf(r, "", " 48=$"+sixteenths("0102AB0300"), " 48=$"+sixteenths("9902__"), " 48=0102AB", " 48=$30")
	s += oneOf(r, "", " 62=$"+sixteenths(bytesOf(r, 1+r.Intn(9))), " 62=$5F", " 62=_", " 62=a$_b=c")
	s += oneOf(r, "", " 60=~tilde_!", " 60=$2441", " 60=$415F", " 28=C12345678", " 28=D00000000", " 43=Two_words")
	return s + oneOf(r, "", "", " 128=x", " 128=$0001020304050607")
}

// asks keeps what a reversal of a request would say.
func (w *writer) asks(s string) {
	number, stamp := "000000", "0000000000"
	for _, f := range strings.Fields(s) {
		if v, ok := strings.CutPrefix(f, "11="); ok {
			number = v
		}
		if v, ok := strings.CutPrefix(f, "7="); ok {
			stamp = v
		}
	}
	w.asked = append(w.asked, s[:4]+number+stamp)
	w.asked = w.asked[max(0, len(w.asked)-6):]
}

func (w *writer) original() string {
	if len(w.asked) == 0 || w.r.Intn(12) == 0 {
		return oneOf(w.r, "", " 90="+strings.Repeat("0", 42))
	}
	return " 90=" + oneOf(w.r, w.asked...) + strings.Repeat("0", 22)
}

// someScript is one of many lines, and what is told of it.
func someScript(r *rand.Rand, lines int) *writer {
	w := newWriter(r, lively(r))
	for range lines {
		w.line(w.some())
	}
	w.line("view")
	w.line("check")
	return w
}

// TestAnyScript: long ones, held against the second reading.
func TestAnyScript(t *testing.T) {
	r := rand.New(rand.NewSource(2503))
	seen := map[string]int{}
	for range 40 {
		w := someScript(r, 200)
		script := w.script.String()
		runsAs(t, script)
		for word, n := range w.seen {
			seen[word] += n
		}
		v := w.s.View()
		for i := range v.Keys {
			seen["keys"] += v.Keys[i]
			seen["dead"] += v.Dead[i]
		}
	}
	for _, word := range strings.Split(">,!,x,?,time,shop,wait,queue,journal,keys,dead,? 243,? 10,? 30,? 90,? 102,? 107,? 110", ",") {
		if seen[word] < 20 {
			t.Errorf("the test saw `%s` only %d times", word, seen[word])
		}
	}
}

// TestMixedScripts: lines that are moved, left out, said again and changed, against the second reading.
func TestMixedScripts(t *testing.T) {
	r := rand.New(rand.NewSource(2504))
	seen := map[api.Errno]int{}
	odd := slices.Concat(oddWords, strings.Fields("up down tick bytes send key view waiting queued check go 70=001 7=1 =1 70= 70=$ 70=$30 0=x 999=x 1000=x till vault 100000 100001"))
	for range 4000 {
		w := newWriter(r, wantShort())
		for range r.Intn(12) {
			w.line(oneOf(r, "up shop", "down shop", "up bank", "tick 3", "view", "check", "waiting", "queued bank", "bytes shop 00", "key shop 0123456789ABCDEF", "send shop 0800 2=4111", "send shop 0200 2=$34 3=000000", "send bank 1200"))
		}
		text := w.script.String()
		if r.Intn(8) == 0 {
			text = changed(t, text, "queue 6 4 7", "queue 6 4 101")
		}
		l := strings.Split(text, "\n")
		for range r.Intn(4) {
			at := len(l) - 1 - r.Intn(min(len(l), 18))
			switch r.Intn(5) {
			case 0:
				l = slices.Delete(l, at, at+1)
			case 1:
				l = slices.Insert(l, r.Intn(len(l)), l[at])
			case 2:
				to := r.Intn(len(l))
				l[at], l[to] = l[to], l[at]
			case 3:
				words := strings.Split(l[at], " ")
				words[r.Intn(len(words))] = oneOf(r, odd...)
				l[at] = strings.Join(words, " ")
			case 4:
				b := []byte(l[at] + " ")
				b[r.Intn(len(b))] = byte(r.Intn(256))
				l[at] = string(b)
			}
		}
		seen[runsAs(t, strings.Join(l, "\n"))]++
	}
	for _, e := range []api.Errno{api.OK, api.ErrScript, api.ErrLink, api.ErrConfig} {
		if seen[e] < 20 {
			t.Errorf("the test saw %s only %d times", nameOf(e), seen[e])
		}
	}
}

// TestTellsTheSame: with either stack (T1, S5), and each time (T7), without a second reading: journals agree with themselves, and a script cut behind a line tells the beginning of what the whole one does.
func TestTellsTheSame(t *testing.T) {
	r := rand.New(rand.NewSource(2505))
	for range 15 {
		w := someScript(r, 150)
		script := w.script.String()
		all := runs(t, script)
		for _, s := range strings.Split(all, "\n") {
			if strings.HasPrefix(s, "journal ") && !strings.HasSuffix(s, " same") && !strings.HasSuffix(s, " lost") {
				t.Fatalf("S5: check tells `%s`", s)
			}
		}
		for _, stack := range []int{core.Tree, core.Scan} {
			if s, _, _ := shell.Run(script, stack); s != all {
				t.Fatal("T7: a script that is run again tells another thing")
			}
		}
		lines := strings.SplitAfter(script, "\n")
		at := slices.Index(lines, "go\n")
		for range 10 {
			part := strings.Join(lines[:at+1+r.Intn(len(lines)-at)], "")
			if !strings.HasPrefix(all, runs(t, part)) {
				t.Fatal("T7: the beginning of a script tells another thing")
			}
		}
	}
}
