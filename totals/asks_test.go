package totals_test

import (
	"math/big"
	"math/rand"
	"regexp"
	"slices"
	"strconv"
	"testing"

	"turnstile/api"
	"turnstile/totals"
)

// A second reading of the chapter: the lists of all pairs that were noted since each link was last in balance; all else is found by going through them.

type pair struct{ x, y api.Message }

type reading [][]pair // by links

var (
	isRequest  = regexp.MustCompile(`\A[01][12]0[01]\z`)
	isAdvice   = regexp.MustCompile(`\A[01][12]2[01]\z`)
	isReversal = regexp.MustCompile(`\A[01]42[01]\z`)
	isBalance  = regexp.MustCompile(`\A[01]50[01]\z`)
	isAmount   = regexp.MustCompile(`\A[0-9]{1,12}\z`)
	isCredit   = regexp.MustCompile(`\A2[0-9]`)
)

func valueOf(m api.Message, number int) (string, bool) {
	i := slices.IndexFunc(m.Fields, func(f api.Field) bool { return f.Number == number })
	if i < 0 {
		return "", false
	}
	return m.Fields[i].Value, true
}

// numbersOf are all that counts have.
func numbersOf(c *api.Counts) []*int {
	return []*int{&c.Requests, &c.Approved, &c.Declined, &c.Advices, &c.Credits, &c.CreditsBack, &c.Debits, &c.DebitsBack, &c.CreditSum, &c.CreditBackSum, &c.DebitSum, &c.DebitBackSum}
}

// brings is what one pair counts.
func (p pair) brings() api.Counts {
	var c api.Counts
	code, _ := valueOf(p.y, 39)
	no := code != "00"
	switch {
	case isRequest.MatchString(p.x.MTI) && no:
		c.Requests, c.Declined = 1, 1
	case isRequest.MatchString(p.x.MTI):
		c.Requests, c.Approved = 1, 1
	case isAdvice.MatchString(p.x.MTI):
		c.Advices = 1
	}
	if no {
		return c
	}
	processing, _ := valueOf(p.x, 3)
	amount, units := "", 0
	if amount, _ = valueOf(p.x, 4); isAmount.MatchString(amount) {
		units, _ = strconv.Atoi(amount)
	}
	switch back := isReversal.MatchString(p.x.MTI); {
	case !back && isCredit.MatchString(processing):
		c.Credits, c.CreditSum = 1, units
	case !back:
		c.Debits, c.DebitSum = 1, units
	case isCredit.MatchString(processing):
		c.CreditsBack, c.CreditBackSum = 1, units
	default:
		c.DebitsBack, c.DebitBackSum = 1, units
	}
	return c
}

func (p pair) isRight() bool {
	x := p.x.MTI
	if !isRequest.MatchString(x) && !isAdvice.MatchString(x) && !isReversal.MatchString(x) {
		return false
	}
	return p.y.MTI == answerOf(x)
}

// total adds up counts; false: something is above its most.
func total(all ...api.Counts) (api.Counts, bool) {
	var sum api.Counts
	for i, to := range numbersOf(&sum) {
		n, most := new(big.Int), big.NewInt(mostNumber)
		if i >= 8 {
			most.SetInt64(mostSum)
		}
		for _, c := range all {
			n.Add(n, big.NewInt(int64(*numbersOf(&c)[i])))
		}
		if n.Cmp(most) > 0 {
			return api.Counts{}, false
		}
		*to = int(n.Int64())
	}
	return sum, true
}

func (m reading) counts(link int, more ...pair) (api.Counts, bool) {
	var l []api.Counts
	for _, p := range append(slices.Clone(m[link]), more...) {
		l = append(l, p.brings())
	}
	return total(l...)
}

func (m reading) has(link int) bool { return 0 <= link && link < len(m) }

func (m reading) note(link int, p pair) api.Errno {
	if !m.has(link) {
		return api.ErrSlot
	}
	if !p.isRight() {
		return api.ErrMessage
	}
	if _, ok := m.counts(link, p); !ok {
		return api.ErrTotals
	}
	m[link] = append(m[link], p)
	return api.OK
}

func (m reading) settle(link int, x api.Message) (bool, api.Errno) {
	if !m.has(link) {
		return false, api.ErrSlot
	}
	if !isBalance.MatchString(x.MTI) {
		return false, api.ErrMessage
	}
	c, _ := m.counts(link)
	for _, f := range fieldsOf(c) {
		if v, ok := valueOf(x, f.Number); ok && v != f.Value {
			return false, api.OK
		}
	}
	m[link] = nil
	return true, api.OK
}

// both is a book, and what the chapter says of it.
type both struct {
	t *testing.T
	b *totals.Book
	m reading

	seen                map[api.Errno]int
	agreed, disagreed   int
	refusedToSettle     int
	yeses, noes, credit int
}

func newBoth(t *testing.T, links int) *both {
	t.Helper()
	return &both{t: t, b: made(t, links), m: make(reading, links), seen: map[api.Errno]int{}}
}

func (b *both) note(link int, x, y api.Message) api.Errno {
	b.t.Helper()
	e := b.b.Note(link, x, y)
	if want := b.m.note(link, pair{x, y}); e != want {
		b.t.Fatalf("22.2: Note(%d, %.300v, %.300v) = %d; must be %d", link, x, y, e, want)
	}
	b.seen[e]++
	if e == api.OK {
		c := pair{x, y}.brings()
		b.yeses += c.Approved
		b.noes += c.Declined
		b.credit += c.Credits + c.CreditsBack
	}
	return e
}

func (b *both) settle(link int, x api.Message) {
	b.t.Helper()
	ok, e := b.b.Settle(link, x)
	if want, f := b.m.settle(link, x); ok != want || e != f {
		b.t.Fatalf("22.4: Settle(%d, %.300v) = %v, %d; must be %v, %d", link, x, ok, e, want, f)
	}
	switch {
	case e != api.OK:
		b.refusedToSettle++
	case ok:
		b.agreed++
	default:
		b.disagreed++
	}
}

// all is the counts of each link.
func (b *both) all() []api.Counts {
	var l []api.Counts
	for link := range b.m {
		c, _ := b.m.counts(link)
		l = append(l, c)
	}
	return l
}

// stands asks all that changes nothing.
func (b *both) stands() {
	b.t.Helper()
	for link, c := range b.all() {
		counts(b.t, b.b, link, c)
	}
	sums(b.t, []*totals.Book{b.b}, b.all()...)
}

// balance is a reconciliation of a link with some of what is counted, and now and then with something else.
func (b *both) balance(r *rand.Rand, link int) api.Message {
	m := of(oneOf(r, "0500", "0501", "1500", "1501", "0500", "0501", oneOf(r, allTypes()...), oneOf(r, wrongTypes...)))
	var c api.Counts
	if b.m.has(link) {
		c, _ = b.m.counts(link)
	}
	for _, f := range fieldsOf(c) {
		switch r.Intn(12) {
		case 0, 1, 2, 3, 4:
			m.Fields = append(m.Fields, f)
		case 5:
			if r.Intn(3) == 0 {
				f.Value = oneOf(r, "", "0", f.Value[1:], "0"+f.Value, f.Value+" ", "1"+f.Value[1:], f.Value[:len(f.Value)-1]+"5")
			}
			m.Fields = append(m.Fields, f, field(f.Number, "another one"))
		}
	}
	if r.Intn(2) == 0 {
		m.Fields = append(m.Fields, field(oneOf(r, 2, 73, 78, 85, 90, 11), "1"))
	}
	r.Shuffle(len(m.Fields), func(i, j int) { m.Fields[i], m.Fields[j] = m.Fields[j], m.Fields[i] })
	return m
}

// anything does one thing, of any kind.
func (b *both) anything(r *rand.Rand) {
	b.t.Helper()
	link := r.Intn(len(b.m))
	if r.Intn(15) == 0 {
		link = oneOf(r, append(edges, len(b.m))...)
	}
	if r.Intn(10) == 0 {
		b.settle(link, b.balance(r, link))
		return
	}
	x, y := somePair(r)
	b.note(link, x, y)
}
