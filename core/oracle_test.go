package core_test

import (
	"cmp"
	"fmt"
	"maps"
	"slices"
	"strings"

	"turnstile/api"
	"turnstile/card"
	"turnstile/cipher"
	"turnstile/clock"
	"turnstile/frame"
	"turnstile/grammar"
	"turnstile/pin"
	"turnstile/seal"
	"turnstile/stan"
	"turnstile/tree"
)

// A second reading of the chapter: what is kept from event to event stands in plain lists, and goes through none of the layers that keep it for the switch (but streams).

type modelLink struct {
	api.Link
	stream             *frame.Stream
	state              string // down, open, signing, on, testing
	wait, quiet, tries int
	queue              []*modelAdvice
	dead               int
	rounds             int
	counts             api.Counts
}

type modelAdvice struct {
	api.Advice
	sent     int
	underWay bool
	ticks    int
}

type modelWait struct {
	api.Pending
	ticks int // since it was added; since it is remembered
}

type modelDone struct {
	link, class   int
	number, stamp string
	to            int
	sent          fields
	card          string
	units, at     int
}

type modelApproval struct {
	card      string
	units, at int
}

// fields are a message's, by their numbers; its type is that of the number 0.
type fields map[int]api.Field

type model struct {
	c         api.Config
	now       int
	links     []*modelLink
	waits     []*modelWait
	late      []*modelWait
	dealt     []int // numbers that are out
	last      int
	approvals []modelApproval
	done      []*modelDone
	keys      []api.Key
	out       []api.Output
	codes     map[string]int // of answers, and how often they were given
}

func newModel(c api.Config) *model {
	m := &model{c: c, codes: map[string]int{}}
	for _, l := range c.Links {
		s, _ := frame.New(l.Header, l.Most)
		m.links = append(m.links, &modelLink{Link: l, stream: s, state: "down"})
	}
	return m
}

func (m *model) dialect(link int) api.Dialect { return m.c.Dialects[m.links[link].Dialect] }

func fieldsOf(x api.Message) fields {
	f := fields{0: {Value: x.MTI}}
	for _, y := range x.Fields {
		f[y.Number] = y
	}
	return f
}

func (f fields) message() api.Message {
	var x api.Message
	for _, n := range slices.Sorted(maps.Keys(f)) {
		if n == 0 {
			x.MTI = f[0].Value
		} else {
			x.Fields = append(x.Fields, f[n])
		}
	}
	return x
}

func (f fields) copied() fields { return maps.Clone(f) }

// with is a copy with other values, each behind its number.
func (f fields) with(l ...any) fields {
	f = f.copied()
	for i := 0; i < len(l); i += 2 {
		f[l[i].(int)] = api.Field{Number: l[i].(int), Value: l[i+1].(string)}
	}
	return f
}

func (f fields) class() int    { return int(f[0].Value[1] - '0') }
func (f fields) function() int { return int(f[0].Value[2] - '0') }

// answering is the type that answers one.
func (f fields) answering() string {
	t := f[0].Value
	return t[:2] + string(t[2]+1) + "0"
}

func (f fields) key(link int) api.Key {
	return api.Key{Link: link, Class: f.class(), Number: f[11].Value, Stamp: f[7].Value, Terminal: f[41].Value}
}

func six(n int) string { return fmt.Sprintf("%06d", n) }

func digitsOf(s string) int {
	n := 0
	fmt.Sscanf(s, "%d", &n)
	return n
}

func (m *model) moment() int { return min(m.c.Start+m.now, api.MaxMoment) }

func (m *model) stamp() string {
	s, _ := clock.Stamp(m.moment())
	return s
}

func (m *model) ready(link int) bool {
	return m.links[link].state == "on" || m.links[link].state == "testing"
}

// take is the number that is dealt next; 0: there is none.
func (m *model) take() int {
	for i := 1; i <= m.c.Numbers && len(m.dealt) < m.c.Numbers; i++ {
		n := (m.last+i-1)%m.c.Numbers + 1
		if !slices.Contains(m.dealt, n) {
			m.dealt, m.last = append(m.dealt, n), n
			return n
		}
	}
	return 0
}

func (m *model) free(n int) {
	m.dealt = slices.DeleteFunc(m.dealt, func(k int) bool { return k == n })
}

// step is what comes of an event; false: it is refused.
func (m *model) step(e api.Event) ([]api.Output, bool) {
	m.out = nil
	if e.Kind == api.EvTick {
		if e.N < 1 || e.N > 100000 {
			return nil, false
		}
		for range e.N {
			m.tick()
		}
		return m.out, true
	}
	if e.Kind < 1 || e.Kind > 4 || e.Link < 0 || e.Link >= len(m.links) || (e.Kind == api.EvUp) != (m.links[e.Link].state == "down") {
		return nil, false
	}
	l := m.links[e.Link]
	switch e.Kind {
	case api.EvUp:
		l.stream.Reset()
		l.state = "open"
		if l.Role == api.Issuer {
			l.state, l.wait = "signing", 0
			m.question(e.Link, "001")
		}
	case api.EvDown:
		m.down(e.Link)
	case api.EvBytes:
		all, bad := l.stream.Feed([]byte(e.Bytes))
		for _, b := range all {
			m.taking(e.Link, b)
		}
		if bad != api.OK {
			m.closing(e.Link, bad)
		}
	}
	return m.out, true
}

func (m *model) down(link int) {
	l := m.links[link]
	l.state = "down"
	l.stream.Reset()
	if len(l.queue) > 0 {
		l.queue[0].underWay = false
	}
}

func (m *model) closing(link int, code api.Errno) {
	m.out = append(m.out, api.Output{Kind: api.OutClose, Link: link, Code: code})
	m.down(link)
}

func (m *model) reject(link int, code api.Errno, at int) {
	m.out = append(m.out, api.Output{Kind: api.OutReject, Link: link, Code: code, At: at})
}

func (m *model) tick() {
	m.now++
	var gone []*modelWait
	for _, w := range m.late {
		w.ticks++
		if w.ticks == m.c.Late {
			gone = append(gone, w)
		}
	}
	m.late = slices.DeleteFunc(m.late, func(w *modelWait) bool { return slices.Contains(gone, w) })
	var over []*modelWait
	for _, w := range m.waits {
		w.ticks++
		if w.ticks == m.c.Timeout {
			over = append(over, w)
		}
	}
	m.waits = slices.DeleteFunc(m.waits, func(w *modelWait) bool { return slices.Contains(over, w) })
	for _, w := range over {
		w.ticks = 0
		m.late = append(m.late, w)
		if len(m.late) > m.c.Pending {
			gone, m.late = append(gone, m.late[0]), m.late[1:]
		}
	}
	for _, w := range over {
		if m.ready(w.From) {
			m.answer(w.From, "68", fieldsOf(w.Request))
		}
		if e := m.back(w.To, fieldsOf(w.Sent)); e != api.OK {
			m.reject(w.To, e, 0)
		}
	}
	for _, w := range gone {
		m.free(w.Number)
	}
	for i := range m.links {
		m.sessionTick(i)
	}
	for i, l := range m.links {
		for _, a := range l.queue {
			a.ticks++
		}
		m.pump(i)
	}
}

func (m *model) sessionTick(link int) {
	l := m.links[link]
	l.wait++
	l.quiet++
	switch {
	case l.state == "signing" && l.wait == l.Answer:
		l.wait = 0
		m.question(link, "001")
	case l.state == "on" && l.Role == api.Issuer && l.Echo > 0 && l.quiet == l.Echo:
		l.state, l.tries, l.wait = "testing", 1, 0
		m.question(link, "301")
	case l.state == "testing" && l.wait == l.Answer:
		if l.tries == 3 {
			m.closing(link, api.ErrState)
			return
		}
		l.tries, l.wait = l.tries+1, 0
		m.question(link, "301")
	}
}

func (m *model) question(link int, code string) {
	n := m.take()
	if n == 0 {
		return
	}
	m.free(n)
	m.send(link, fields{}.with(0, fmt.Sprint(m.dialect(link).Version)+"800", 7, m.stamp(), 11, six(n), 70, code))
}

// write is a message as a frame.
func (m *model) write(link int, f fields) (string, api.Errno, int) {
	l, d := m.links[link], m.dialect(link)
	x := fieldsOf(grammar.Cut(d, f.message()))
	if l.MAC != 0 {
		x = x.with(d.MAC, "anything")
	}
	b, e, n := tree.Build(d, x.message())
	if e != api.OK {
		return "", e, n
	}
	if l.MAC != 0 {
		tag, _ := seal.Tag(l.MAC, l.Pad, l.Key, b[:len(b)-8])
		b = b[:len(b)-8] + tag
	}
	b, e = frame.Wrap(l.Header, l.Most, b)
	return b, e, 0
}

func (m *model) send(link int, f fields) {
	b, e, at := m.write(link, f)
	if e != api.OK {
		m.reject(link, e, at)
		return
	}
	m.out = append(m.out, api.Output{Kind: api.OutFrame, Link: link, Bytes: b})
}

// answer is ANSWER WITH, with some fields more.
func (m *model) answer(link int, code string, f fields, more ...any) {
	m.codes[code]++
	r := fields{}.with(0, f.answering(), 39, code)
	for _, n := range []int{2, 3, 4, 7, 11, 12, 13, 22, 25, 32, 37, 41, 42, 49, 66, 70, 90} {
		if x, ok := f[n]; ok {
			r[n] = x
		}
	}
	m.note(link, f, r)
	m.send(link, r.with(more...))
}

// note counts a request, an advice or a reversal, and its answer. (No test of this reading comes to the most that may be counted.)
func (m *model) note(link int, f, r fields) {
	c := &m.links[link].counts
	yes := r[39].Value == "00"
	three, amount := f[3].Value, digitsOf(f[4].Value)
	credit := len(three) > 1 && three[0] == '2'
	if f.class() == 4 {
		switch {
		case yes && credit:
			c.CreditsBack, c.CreditBackSum = c.CreditsBack+1, c.CreditBackSum+amount
		case yes:
			c.DebitsBack, c.DebitBackSum = c.DebitsBack+1, c.DebitBackSum+amount
		}
		return
	}
	switch {
	case f.class() > 2:
		return
	case f.function() == 2:
		c.Advices++
	case yes:
		c.Requests, c.Approved = c.Requests+1, c.Approved+1
	default:
		c.Requests, c.Declined = c.Requests+1, c.Declined+1
	}
	switch {
	case yes && credit:
		c.Credits, c.CreditSum = c.Credits+1, c.CreditSum+amount
	case yes:
		c.Debits, c.DebitSum = c.Debits+1, c.DebitSum+amount
	}
}

func (m *model) pump(link int) {
	l := m.links[link]
	for m.ready(link) && len(l.queue) > 0 {
		a := l.queue[0]
		if a.underWay && a.ticks < m.c.Retry {
			return
		}
		if a.sent < m.c.Tries {
			a.underWay, a.ticks, a.sent = true, 0, a.sent+1
			if a.sent == 1 {
				m.send(link, fieldsOf(a.Message))
			} else {
				m.send(link, fieldsOf(a.Repeat))
			}
			return
		}
		m.free(a.Number)
		l.queue = l.queue[1:]
		l.dead = min(l.dead+1, 10000)
	}
}

func (m *model) layDown(link, number int, f fields) api.Errno {
	l := m.links[link]
	if len(l.queue) == m.c.Queue {
		return api.ErrQueue
	}
	again := f.with(0, f[0].Value[:3]+"1")
	l.queue = append(l.queue, &modelAdvice{Advice: api.Advice{Link: link, Number: number, Message: f.message(), Repeat: again.message()}})
	m.pump(link)
	return api.OK
}

// back is TAKE BACK.
func (m *model) back(link int, sent fields) api.Errno {
	n := m.take()
	if n == 0 {
		return api.ErrSpent
	}
	r := fields{}
	for _, k := range []int{2, 3, 4, 12, 13, 32, 37, 38, 41, 42, 49} {
		if x, ok := sent[k]; ok {
			r[k] = x
		}
	}
	original := sent[0].Value + sent[11].Value + sent[7].Value + strings.Repeat("0", 11-len(sent[32].Value)) + sent[32].Value + strings.Repeat("0", 11)
	r = r.with(0, sent[0].Value[:1]+"420", 7, m.stamp(), 11, six(n), 90, original)
	if e := m.layDown(link, n, r); e != api.OK {
		m.free(n)
		return e
	}
	return api.OK
}

// taking is TAKE.
func (m *model) taking(link int, b string) {
	l, d := m.links[link], m.dialect(link)
	x, defect := tree.Parse(d, b)
	if defect.Code != api.OK {
		m.reject(link, defect.Code, defect.At)
		return
	}
	if l.MAC != 0 {
		at := len(b) - 8
		if tag, _ := seal.Tag(l.MAC, l.Pad, l.Key, b[:at]); tag != b[at:] {
			m.reject(link, api.ErrSeal, at)
			return
		}
	}
	f := fieldsOf(x)
	if d.MAC != 0 {
		delete(f, d.MAC)
	}
	if code := m.does(link, f); code != api.OK {
		m.reject(link, code, 0)
	}
	m.pump(link)
}

// does is what a message asks for; why it is refused.
func (m *model) does(link int, f fields) api.Errno {
	l := m.links[link]
	if f.class() == 8 {
		m.network(link, f)
		return api.OK
	}
	if !m.ready(link) {
		return api.ErrOff
	}
	if l.state == "on" {
		l.quiet = 0
	}
	switch kind := fmt.Sprint(l.Role, f.class(), f.function()); kind {
	case "1 1 0", "1 2 0":
		return m.request(link, f)
	case "1 1 2", "1 2 2":
		m.advice(link, f)
	case "1 4 2":
		m.reversal(link, f)
	case "1 5 0":
		m.settle(link, f)
	case "2 1 1", "2 2 1":
		return m.answered(link, f)
	case "2 1 3", "2 2 3", "2 4 3":
		n := digitsOf(f[11].Value)
		if len(l.queue) == 0 || !l.queue[0].underWay || l.queue[0].Number != n {
			return api.ErrNone
		}
		l.queue = l.queue[1:]
		m.free(n)
	default:
		return api.ErrKind
	}
	return api.OK
}

func (m *model) network(link int, f fields) {
	l, code := m.links[link], f[70].Value
	if f.function() == 1 {
		switch {
		case l.state == "signing" && code == "001" && f[39].Value == "00", l.state == "testing" && code == "301":
			l.state = "on"
		}
		if l.state == "on" {
			l.quiet = 0
		}
		return
	}
	if code == "101" {
		if m.changes(link, f) {
			l.rounds++
			m.answer(link, "00", f)
		} else {
			m.answer(link, "81", f)
		}
		return
	}
	says := "12"
	switch {
	case code == "001" && l.Role == api.Acquirer:
		l.state, says = "on", "00"
	case code == "002":
		l.state, says = "open", "00"
	case code == "301":
		says = "00"
	}
	if l.state == "on" {
		l.quiet = 0
	}
	m.answer(link, says, f)
}

// changes takes a new key.
func (m *model) changes(link int, f fields) bool {
	l := m.links[link]
	said := map[int]string{}
	for _, k := range f[48].Kids {
		if _, ok := said[k.Tag]; !ok {
			said[k.Tag] = k.Value
		}
	}
	if l.Exchange == "" || len(said[1]) != 2*len(l.Key) || strings.Trim(said[1]+said[2], "0123456789ABCDEF") != "" {
		return false
	}
	x, _ := cipher.New(l.Exchange)
	key, _ := x.Decrypt(bytesOf("$" + said[1]))
	check, _ := cipher.Check(key)
	if cipher.Weak(key) || said[2] != sixteenths(check) {
		return false
	}
	l.Key = key
	return true
}

// request is REQUEST.
func (m *model) request(link int, f fields) api.Errno {
	for _, w := range m.waits {
		if w.Key == f.key(link) {
			return api.ErrTwice
		}
	}
	pan, expiry := card.Number(f.message()), card.Expiry(f.message())
	date, _ := clock.Date(m.moment())
	month := fmt.Sprintf("%02d%02d", date.Year-2000, date.Month)
	_, hasPIN := f[52]
	group := m.group(pan)
	switch {
	case card.Right(pan) != api.OK:
		m.answer(link, "14", f)
	case expiry != "" && (expiry[2:] < "01" || expiry[2:] > "12" || expiry < month):
		m.answer(link, "54", f)
	case f[4].Value == "":
		m.answer(link, "13", f)
	case group < 0:
		m.answer(link, "15", f)
	default:
		for _, to := range m.c.Groups[group].Links {
			if m.ready(to) {
				if code := m.forward(link, to, f, pan); code != "" {
					m.answer(link, code, f)
				}
				return api.OK
			}
		}
		if hasPIN {
			m.answer(link, "91", f)
			return api.OK
		}
		m.standIn(link, group, f, pan)
	}
	return api.OK
}

// group is that of the longest prefix; below 0: there is none.
func (m *model) group(pan string) int {
	best, group := "", -1
	for _, r := range m.c.Routes {
		if strings.HasPrefix(pan, r.Prefix) && len(r.Prefix) > len(best) {
			best, group = r.Prefix, r.Group
		}
	}
	return group
}

// own is a message with the switch's own fields.
func (m *model) own(link, number int, f fields) fields {
	reference, _ := stan.Reference(m.moment(), number)
	return f.with(7, m.stamp(), 11, six(number), 32, m.links[link].ID, 37, reference)
}

// forward lets a request go out; why it is declined.
func (m *model) forward(link, to int, f fields, pan string) string {
	n := m.take()
	if n == 0 {
		return "96"
	}
	sent, why := m.own(link, n, f), ""
	if block, has := f[52]; has {
		a, b := m.links[link].PIN, m.links[to].PIN
		moved, e := pin.Move(a, b, 0, 0, block.Value, pan, "")
		sent = sent.with(52, moved)
		switch {
		case a == "" || b == "":
			why = "81"
		case e != api.OK:
			why = "55"
		}
	}
	b, e, _ := m.write(to, sent)
	switch {
	case why != "":
	case e != api.OK:
		why = "30"
	case len(m.waits) == m.c.Pending:
		why = "96"
	}
	if why != "" {
		m.free(n)
		return why
	}
	m.waits = append(m.waits, &modelWait{Pending: api.Pending{Key: f.key(link), From: link, To: to, Number: n, Request: f.message(), Sent: sent.message()}})
	m.out = append(m.out, api.Output{Kind: api.OutFrame, Link: to, Bytes: b})
	return ""
}

func (m *model) standIn(link, group int, f fields, pan string) {
	n := m.take()
	if n == 0 {
		m.answer(link, "96", f)
		return
	}
	l, units := m.c.Groups[group].Standin, digitsOf(f[4].Value)
	count, sum := 0, 0
	for _, a := range m.approvals {
		if a.card == pan && m.now-a.at < l.Window {
			count, sum = count+1, sum+a.units
		}
	}
	if units > l.Single || count >= l.Count || sum+units > l.Sum {
		m.free(n)
		m.answer(link, "91", f)
		return
	}
	m.approve(modelApproval{pan, units, m.now})
	told := m.own(link, n, f).with(0, f[0].Value[:2]+"20", 38, six(n), 39, "00")
	to := m.c.Groups[group].Links[0]
	if m.layDown(to, n, told) != api.OK {
		m.undo(modelApproval{pan, units, m.now})
		m.free(n)
		m.answer(link, "91", f)
		return
	}
	m.answer(link, "00", f, 38, six(n))
	m.doing(link, f, &modelDone{to: to, sent: told, card: pan, units: units, at: m.now})
}

// approve remembers an approval; of too many cards that is forgotten whose last one is oldest.
func (m *model) approve(a modelApproval) {
	m.approvals = append(m.approvals, a)
	last := map[string]int{}
	for i, a := range m.approvals {
		last[a.card] = i
	}
	if len(last) <= m.c.Cards {
		return
	}
	oldest := slices.MinFunc(slices.Collect(maps.Keys(last)), func(a, b string) int { return cmp.Compare(last[a], last[b]) })
	m.approvals = slices.DeleteFunc(m.approvals, func(a modelApproval) bool { return a.card == oldest })
}

func (m *model) undo(a modelApproval) {
	if i := slices.Index(m.approvals, a); i >= 0 {
		m.approvals = slices.Delete(m.approvals, i, i+1)
	}
}

func (m *model) doing(link int, f fields, d *modelDone) {
	d.link, d.class, d.number, d.stamp = link, f.class(), f[11].Value, f[7].Value
	m.done = append(m.done, d)
	m.done = m.done[max(0, len(m.done)-m.c.Pending):]
}

// answered is ANSWER.
func (m *model) answered(link int, f fields) api.Errno {
	n := digitsOf(f[11].Value)
	is := func(w *modelWait) bool { return w.To == link && w.Number == n }
	if i := slices.IndexFunc(m.late, is); i >= 0 {
		m.late = slices.Delete(m.late, i, i+1)
		m.free(n)
		return api.OK
	}
	i := slices.IndexFunc(m.waits, is)
	if i < 0 {
		return api.ErrNone
	}
	w := m.waits[i]
	m.waits = slices.Delete(m.waits, i, i+1)
	m.free(n)
	request := fieldsOf(w.Request)
	r := f.with(0, request.answering())
	for _, k := range []int{7, 11, 32, 37} {
		delete(r, k)
		if x, ok := request[k]; ok {
			r[k] = x
		}
	}
	if m.ready(w.From) {
		m.note(w.From, request, r)
		m.send(w.From, r)
	}
	if f[39].Value == "00" {
		m.doing(w.From, request, &modelDone{to: link, sent: fieldsOf(w.Sent)})
	}
	return api.OK
}

func (m *model) remember(k api.Key) {
	m.keys = append(m.keys, k)
	m.keys = m.keys[max(0, len(m.keys)-m.c.Pending):]
}

func (m *model) advice(link int, f fields) {
	if slices.Contains(m.keys, f.key(link)) {
		m.answer(link, "00", f)
		return
	}
	g := m.group(card.Number(f.message()))
	if g < 0 {
		m.answer(link, "15", f)
		return
	}
	n := m.take()
	if n == 0 {
		m.answer(link, "96", f)
		return
	}
	if m.layDown(m.c.Groups[g].Links[0], n, m.own(link, n, f).with(0, f[0].Value[:2]+"20")) != api.OK {
		m.free(n)
		m.answer(link, "96", f)
		return
	}
	m.answer(link, "00", f)
	m.remember(f.key(link))
}

func (m *model) reversal(link int, f fields) {
	original, has := f[90]
	is := func(o fields, from int) bool {
		t := original.Value[:4]
		return from == link && slices.Contains(allTypes, t[1:]) && t[0] < '2' && o.class() == int(t[1]-'0') && o[11].Value == original.Value[4:10] && o[7].Value == original.Value[10:20]
	}
	if slices.Contains(m.keys, f.key(link)) {
		m.answer(link, "00", f)
		return
	}
	if !has {
		m.answer(link, "12", f)
		return
	}
	for _, w := range m.waits {
		if is(fieldsOf(w.Request), w.From) {
			m.answer(link, "21", f)
			return
		}
	}
	for i, d := range m.done {
		o := fields{}.with(0, fmt.Sprintf("0%d00", d.class), 11, d.number, 7, d.stamp)
		if !is(o, d.link) {
			continue
		}
		if m.back(d.to, d.sent) != api.OK {
			m.answer(link, "96", f)
			return
		}
		if d.card != "" {
			m.undo(modelApproval{d.card, d.units, d.at})
		}
		m.done = slices.Delete(m.done, i, i+1)
		m.answer(link, "00", f)
		m.remember(f.key(link))
		return
	}
	m.answer(link, "25", f)
}

// allTypes are all types, without their versions.
var allTypes = strings.Fields("100 101 110 120 121 130 200 201 210 220 221 230 420 421 430 500 501 510 800 801 810")

// totals are a link's, each behind its number.
func (m *model) totals(link int) []any {
	c := m.links[link].counts
	var l []any
	for i, n := range []int{c.Credits, c.CreditsBack, c.Debits, c.DebitsBack} {
		l = append(l, 74+i, fmt.Sprintf("%010d", n))
	}
	for i, n := range []int{c.CreditSum, c.CreditBackSum, c.DebitSum, c.DebitBackSum} {
		l = append(l, 86+i, fmt.Sprintf("%016d", n))
	}
	return l
}

func (m *model) settle(link int, f fields) {
	told := m.totals(link)
	same := true
	for i := 0; i < len(told); i += 2 {
		if x, ok := f[told[i].(int)]; ok && x.Value != told[i+1].(string) {
			same = false
		}
	}
	if same {
		m.links[link].counts = api.Counts{}
		m.answer(link, "00", f, append(told, 66, "1")...)
	} else {
		m.answer(link, "95", f, append(told, 66, "2")...)
	}
}

func (m *model) view() api.View {
	v := api.View{Now: m.now, Pending: len(m.waits), Late: len(m.late)}
	for i, l := range m.links {
		v.Up = append(v.Up, l.state != "down")
		v.Ready = append(v.Ready, m.ready(i))
		v.Held = append(v.Held, l.stream.Waits())
		v.Queued = append(v.Queued, len(l.queue))
		v.Dead = append(v.Dead, l.dead)
		v.Keys = append(v.Keys, l.rounds)
		v.Counts = append(v.Counts, l.counts)
	}
	return v
}

// waiting and queued are what waits, as text.
func (m *model) waiting() string {
	var l []api.Pending
	for _, w := range m.waits {
		l = append(l, w.Pending)
	}
	return seenWaiting(l)
}

func (m *model) queued(link int) string {
	var l []api.Advice
	for _, a := range m.links[link].queue {
		l = append(l, a.Advice)
	}
	return seenQueued(l)
}

func seenWaiting(l []api.Pending) string {
	var s strings.Builder
	for _, w := range l {
		fmt.Fprintf(&s, "%+v %d %d %d: %s / %s\n", w.Key, w.From, w.To, w.Number, line(w.Request, plain()), line(w.Sent, plain()))
	}
	return s.String()
}

func seenQueued(l []api.Advice) string {
	var s strings.Builder
	for _, a := range l {
		fmt.Fprintf(&s, "%d %d: %s / %s\n", a.Link, a.Number, line(a.Message, plain()), line(a.Repeat, plain()))
	}
	return s.String()
}
