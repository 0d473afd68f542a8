package totals_test

import (
	"fmt"
	"slices"
	"strings"
	"testing"

	"turnstile/api"
	"turnstile/totals"
)

func TestNew(t *testing.T) {
	for _, n := range edges {
		holdsNew(t, n)
	}
	for n := -100; n <= 100; n++ {
		holdsNew(t, n)
	}
}

func holdsNew(t *testing.T, links int) {
	t.Helper()
	if links < 1 || links > 32 {
		if b, e := totals.New(links); b != nil || e != api.ErrArg {
			t.Errorf("22.1: New(%d) is %d, and a book: %v; must be ErrArg, nil", links, e, b != nil)
		}
		return
	}
	b := made(t, links)
	for link := range links {
		counts(t, b, link, api.Counts{})
	}
	sums(t, []*totals.Book{b}, make([]api.Counts, links)...)
}

// TestNoSuchLink: ErrSlot counts ahead of all else, and nothing changes.
func TestNoSuchLink(t *testing.T) {
	for links := 1; links <= 32; links++ {
		b := made(t, links)
		for _, n := range append(edges, links-1, links, links+1) {
			if 0 <= n && n < links {
				approves(t, b, n, debit(1))
				counts(t, b, n, api.Counts{Requests: 1, Approved: 1, Debits: 1, DebitSum: 1})
				settles(t, b, true, n, of("0500"))
				continue
			}
			notes(t, b, api.ErrSlot, n, debit(1), says("0210", "00"))
			notes(t, b, api.ErrSlot, n, of("x"), of(""))
			if c, e := b.Counts(n); c != (api.Counts{}) || e != api.ErrSlot {
				t.Errorf("22.3: of %d links Counts(%d) = %+v, %d", links, n, c, e)
			}
			if l, e := b.Fields(n); len(l) != 0 || e != api.ErrSlot {
				t.Errorf("22.3: of %d links Fields(%d) = %v, %d", links, n, l, e)
			}
			for _, mti := range []string{"0500", "0800", "x", ""} {
				if ok, e := b.Settle(n, of(mti)); ok || e != api.ErrSlot {
					t.Errorf("22.4: of %d links Settle(%d, %q) = %v, %d", links, n, mti, ok, e)
				}
			}
		}
		sums(t, []*totals.Book{b}, make([]api.Counts, links)...)
	}
}

// TestTypesOfNote: of all texts of four digits, and others: which pairs of types are counted.
func TestTypesOfNote(t *testing.T) {
	counted := map[string]string{}
	for _, mti := range asked() {
		counted[mti] = answerOf(mti)
	}
	all := slices.Concat(wrongTypes, allTypes())
	for n := range 10000 {
		all = append(all, fmt.Sprintf("%04d", n))
	}
	answers := append(allTypes(), "", "x", "0211", "0131", "02100")
	b := made(t, 1)
	for _, x := range all {
		l := append(answers, x)
		if len(x) == 4 {
			l = append(l, answerOf(x), answerOf(x)[:3]+"1")
		}
		for _, y := range l {
			want := api.ErrMessage
			if counted[x] == y && y != "" {
				want = api.OK
			}
			notes(t, b, want, 0, of(x), of(y))
		}
	}
}

// TestNoteByHand: what each kind of message counts, told yes and told no.
func TestNoteByHand(t *testing.T) {
	for _, v := range []string{"0", "1"} {
		for _, class := range []string{"1", "2"} {
			for _, origin := range []string{"0", "1"} {
				mti := v + class + "0" + origin
				holdsNote(t, request(mti, "000000", "7"), api.Counts{Requests: 1, Approved: 1, Debits: 1, DebitSum: 7}, api.Counts{Requests: 1, Declined: 1})
				holdsNote(t, request(mti, "200000", "7"), api.Counts{Requests: 1, Approved: 1, Credits: 1, CreditSum: 7}, api.Counts{Requests: 1, Declined: 1})
				mti = v + class + "2" + origin
				holdsNote(t, request(mti, "000000", "7"), api.Counts{Advices: 1, Debits: 1, DebitSum: 7}, api.Counts{Advices: 1})
				holdsNote(t, request(mti, "200000", "7"), api.Counts{Advices: 1, Credits: 1, CreditSum: 7}, api.Counts{Advices: 1})
				mti = v + "42" + origin
				holdsNote(t, request(mti, "000000", "7"), api.Counts{DebitsBack: 1, DebitBackSum: 7}, api.Counts{})
				holdsNote(t, request(mti, "200000", "7"), api.Counts{CreditsBack: 1, CreditBackSum: 7}, api.Counts{})
			}
		}
	}
}

func holdsNote(t *testing.T, x api.Message, yes, no api.Counts) {
	t.Helper()
	mti := answerOf(x.MTI)
	for _, code := range codes {
		b := made(t, 1)
		notes(t, b, api.OK, 0, x, says(mti, code))
		if code == "00" {
			counts(t, b, 0, yes)
		} else {
			counts(t, b, 0, no)
		}
	}
	b := made(t, 1)
	notes(t, b, api.OK, 0, x, of(mti))
	counts(t, b, 0, no)
}

// TestAmounts: 1 to 12 digits are one; all else is 0, and is counted nevertheless.
func TestAmounts(t *testing.T) {
	for s, n := range map[string]int{"0": 0, "00": 0, "5": 5, "05": 5, "10": 10, "000000000000": 0, "000000000001": 1, "00000000001": 1, "999999999999": mostAmount, "123456789012": 123456789012, "100000000000": 100000000000} {
		holdsAmount(t, s, n)
	}
	for width := 1; width <= 40; width++ {
		n := 0
		if width <= 12 {
			n = 9
		}
		holdsAmount(t, strings.Repeat("0", width-1)+"9", n)
	}
	for at := range 12 {
		for c := range 256 {
			n := 0
			s := []byte("111111111111")
			s[at] = byte(c)
			if '0' <= c && c <= '9' {
				fmt.Sscan(strings.TrimLeft(string(s), "0"), &n)
			}
			holdsAmount(t, string(s), n)
		}
	}
	for _, s := range []string{"", " ", "-1", "+1", " 1", "1 ", "1.0", "1e3", "0x1", "1_0", "1\x00", "\x001", "１", strings.Repeat("1", 100_000)} {
		holdsAmount(t, s, 0)
	}
}

func holdsAmount(t *testing.T, s string, n int) {
	t.Helper()
	b := made(t, 1)
	approves(t, b, 0, request("0200", "", s), request("0220", "20", s), request("0420", "30", s), request("0420", "20", s))
	counts(t, b, 0, api.Counts{Requests: 1, Approved: 1, Advices: 1, Debits: 1, DebitSum: n, Credits: 1, CreditSum: n, DebitsBack: 1, DebitBackSum: n, CreditsBack: 1, CreditBackSum: n})
}

// TestCredits: of all first two bytes, and of shorter and longer texts.
func TestCredits(t *testing.T) {
	for i := range 256 {
		for j := range 256 {
			s := string([]byte{byte(i), byte(j)})
			is := i == '2' && '0' <= j && j <= '9'
			holdsCredit(t, s, is)
			if is {
				holdsCredit(t, s+"0000", true)
				holdsCredit(t, s+"\xff\x00", true)
				holdsCredit(t, " "+s, false)
			}
		}
		holdsCredit(t, string([]byte{byte(i)}), false)
	}
	holdsCredit(t, "", false)
	b := made(t, 1)
	approves(t, b, 0, of("0200", field(4, "1")), of("0420", field(4, "2")))
	counts(t, b, 0, api.Counts{Requests: 1, Approved: 1, Debits: 1, DebitSum: 1, DebitsBack: 1, DebitBackSum: 2})
}

func holdsCredit(t *testing.T, s string, is bool) {
	t.Helper()
	b := made(t, 1)
	approves(t, b, 0, request("0100", s, "3"), request("1420", s, "4"))
	want := api.Counts{Requests: 1, Approved: 1, Debits: 1, DebitSum: 3, DebitsBack: 1, DebitBackSum: 4}
	if is {
		want = api.Counts{Requests: 1, Approved: 1, Credits: 1, CreditSum: 3, CreditsBack: 1, CreditBackSum: 4}
	}
	if c, e := b.Counts(0); c != want || e != api.OK {
		t.Fatalf("22.2: a field 3 of %q counts %+v, %d; must be %+v", s, c, e, want)
	}
}

// TestWhoseFields: the amount and the processing are the request's, the code is the answer's.
func TestWhoseFields(t *testing.T) {
	b := made(t, 1)
	x := of("0200", field(3, "000000"), field(4, "5"), field(39, "51"))
	y := of("0210", field(3, "200000"), field(4, "9"), field(39, "00"))
	notes(t, b, api.OK, 0, x, y)
	counts(t, b, 0, api.Counts{Requests: 1, Approved: 1, Debits: 1, DebitSum: 5})
	notes(t, b, api.OK, 0, of("0200", field(39, "00")), of("0210", field(3, "200000"), field(4, "9")))
	counts(t, b, 0, api.Counts{Requests: 2, Approved: 1, Declined: 1, Debits: 1, DebitSum: 5})
	notes(t, b, api.OK, 0, of("0200"), y)
	counts(t, b, 0, api.Counts{Requests: 3, Approved: 2, Declined: 1, Debits: 2, DebitSum: 5})
}

// TestFirstFieldCounts: as message.Get tells them: of several fields the first one, in whatever order they stand; of one with Kids its Value.
func TestFirstFieldCounts(t *testing.T) {
	b := made(t, 1)
	x := of("0200", field(39, "x"), field(4, "5"), field(3, "20"), field(4, "9"), field(3, "00"), field(-1, ""))
	notes(t, b, api.OK, 0, x, of("0210", field(39, "00"), field(39, "51")))
	counts(t, b, 0, api.Counts{Requests: 1, Approved: 1, Credits: 1, CreditSum: 5})
	notes(t, b, api.OK, 0, x, of("0210", field(39, "51"), field(39, "00")))
	counts(t, b, 0, api.Counts{Requests: 2, Approved: 1, Declined: 1, Credits: 1, CreditSum: 5})
	nodes := []api.Node{{Tag: 1, Value: "00"}}
	x = of("0200", api.Field{Number: 4, Value: "7", Kids: nodes}, kids(3, nodes...), field(3, "20"))
	notes(t, b, api.OK, 0, x, of("0210", api.Field{Number: 39, Value: "00", Kids: nodes}))
	counts(t, b, 0, api.Counts{Requests: 3, Approved: 2, Declined: 1, Credits: 1, CreditSum: 5, Debits: 1, DebitSum: 7})
	notes(t, b, api.OK, 0, x, of("0210", kids(39, nodes...)))
	counts(t, b, 0, api.Counts{Requests: 4, Approved: 2, Declined: 2, Credits: 1, CreditSum: 5, Debits: 1, DebitSum: 7})
}

// fillsSum notes what lifts a sum of a link that has nothing yet to just the most of it.
func fillsSum(t *testing.T, b *totals.Book, link int, of func(int) api.Message) {
	t.Helper()
	for range 10000 {
		approves(t, b, link, of(mostAmount))
	}
	approves(t, b, link, of(9999))
}

// TestSumsAreFull: each sum has room up to its most; one that is full stands in nobody else's way, and what is refused counts nothing.
func TestSumsAreFull(t *testing.T) {
	for i, of := range []func(int) api.Message{credit, creditBack, debit, debitBack} {
		b := made(t, 2)
		fillsSum(t, b, 1, of)
		full := []api.Counts{
			{Requests: 10001, Approved: 10001, Credits: 10001, CreditSum: mostSum},
			{CreditsBack: 10001, CreditBackSum: mostSum},
			{Requests: 10001, Approved: 10001, Debits: 10001, DebitSum: mostSum},
			{DebitsBack: 10001, DebitBackSum: mostSum},
		}[i]
		counts(t, b, 1, full)
		for _, n := range []int{1, 2, 9999, mostAmount} {
			overflows(t, b, 1, of(n))
			x := of(n)
			if x.MTI == "0200" {
				x.MTI = "1121"
				overflows(t, b, 1, x)
			}
		}
		counts(t, b, 1, full)
		notes(t, b, api.ErrMessage, 1, of(1), says("0220", "00"))
		notes(t, b, api.OK, 1, of(1), says(answerOf(of(1).MTI), "01"))
		approves(t, b, 1, of(0))
		for j, other := range []func(int) api.Message{credit, creditBack, debit, debitBack} {
			if j != i {
				approves(t, b, 1, other(mostAmount))
			}
		}
		counts(t, b, 0, api.Counts{})
		c, _ := b.Counts(1)
		if slices.Max([]int{c.CreditSum, c.CreditBackSum, c.DebitSum, c.DebitBackSum}) != mostSum {
			t.Errorf("22.2: a sum that is full became another one: %+v", c)
		}
		l, _ := b.Fields(1)
		settles(t, b, true, 1, api.Message{MTI: "0500", Fields: l})
		approves(t, b, 1, of(mostAmount))
	}
}

// TestTypesOfSettle: of all texts of four digits, and others: which are a reconciliation's.
func TestTypesOfSettle(t *testing.T) {
	all := slices.Concat(wrongTypes, allTypes())
	for n := range 10000 {
		all = append(all, fmt.Sprintf("%04d", n))
	}
	for _, mti := range all {
		b := made(t, 1)
		approves(t, b, 0, debit(5))
		ok, e := b.Settle(0, of(mti))
		if slices.Contains([]string{"0500", "0501", "1500", "1501"}, mti) {
			if !ok || e != api.OK {
				t.Errorf("22.4: Settle of %q = %v, %d; must be true", mti, ok, e)
			}
			counts(t, b, 0, api.Counts{})
			continue
		}
		if ok || e != api.ErrMessage {
			t.Errorf("22.4: Settle of %q = %v, %d; must be ErrMessage", mti, ok, e)
		}
		counts(t, b, 0, api.Counts{Requests: 1, Approved: 1, Debits: 1, DebitSum: 5})
	}
}

// various is a book whose first link tells another thing in each of the eight fields.
func various(t *testing.T) (*totals.Book, api.Counts) {
	t.Helper()
	b := made(t, 2)
	notes(t, b, api.OK, 0, of("0200"), of("0210"))
	approves(t, b, 0, request("0220", "00", "3"))
	for n, of := range []func(int) api.Message{credit, creditBack, debit, debitBack} {
		for range 2*n + 2 {
			approves(t, b, 0, of(1000+n))
		}
	}
	c := api.Counts{
		Requests: 9, Approved: 8, Declined: 1, Advices: 1,
		Credits: 2, CreditsBack: 4, Debits: 7, DebitsBack: 8,
		CreditSum: 2000, CreditBackSum: 4004, DebitSum: 6015, DebitBackSum: 8024,
	}
	counts(t, b, 0, c)
	return b, c
}

// TestSettleOfEachField: each of them alone decides, byte by byte; where all that are there agree, all counts are 0, those too of which nothing was told.
func TestSettleOfEachField(t *testing.T) {
	_, c := various(t)
	for _, f := range fieldsOf(c) {
		wrong := []string{"", "0", strings.TrimLeft(f.Value, "0"), "0" + f.Value, f.Value[1:], f.Value + "0", f.Value + " ", " " + f.Value[1:], f.Value + "\x00", "another one"}
		for at := range f.Value {
			s := []byte(f.Value)
			s[at]++
			wrong = append(wrong, string(s))
		}
		b, _ := various(t)
		for _, v := range wrong {
			settles(t, b, false, 0, of("0500", field(f.Number, v)))
			settles(t, b, false, 0, of("0500", field(f.Number, v), f))
			all := fieldsOf(c)
			all[slices.IndexFunc(all, func(g api.Field) bool { return g.Number == f.Number })].Value = v
			settles(t, b, false, 0, of("1501", all...))
			counts(t, b, 0, c)
		}
		settles(t, b, false, 0, of("0500", kids(f.Number, api.Node{Tag: 1, Value: f.Value})))
		counts(t, b, 0, c)
		settles(t, b, true, 0, of("0500", f, field(f.Number, "another one")))
		counts(t, b, 0, api.Counts{})
		b, _ = various(t)
		settles(t, b, true, 0, of("1500", f))
		counts(t, b, 0, api.Counts{})
	}
}

// TestSettleAsksNoOtherField: nor that a message is whole.
func TestSettleAsksNoOtherField(t *testing.T) {
	for n := -1; n <= 130; n++ {
		b, c := various(t)
		settles(t, b, n < 74 || n > 77 && n < 86 || n > 89, 0, of("0500", field(n, "1")))
		if 74 <= n && n <= 77 || 86 <= n && n <= 89 {
			counts(t, b, 0, c)
		} else {
			counts(t, b, 0, api.Counts{})
		}
	}
	b, c := various(t)
	l := fieldsOf(c)
	slices.Reverse(l)
	settles(t, b, true, 0, of("0501", append(l, field(-5, "x"), field(2, "x"), field(2, "y"))...))
	counts(t, b, 0, api.Counts{})
}

// TestSettleOfOneLink: the counts of others stay.
func TestSettleOfOneLink(t *testing.T) {
	b := made(t, 32)
	for link := range 32 {
		approves(t, b, link, debit(link))
	}
	for link := range 32 {
		settles(t, b, false, link, of("0500", field(88, fmt.Sprintf("%016d", link+1))))
		settles(t, b, true, link, of("0500", field(88, fmt.Sprintf("%016d", link))))
		for other := range 32 {
			want := api.Counts{}
			if other > link {
				want = api.Counts{Requests: 1, Approved: 1, Debits: 1, DebitSum: other}
			}
			counts(t, b, other, want)
		}
	}
}
