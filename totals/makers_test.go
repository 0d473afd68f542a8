package totals_test

import (
	"fmt"
	"math"
	"math/rand"
	"slices"
	"testing"

	"turnstile/api"
	"turnstile/totals"
)

const (
	mostNumber = 9999999999
	mostSum    = 9999999999999999
	mostAmount = 999999999999
)

// edges are numbers at and about those that the chapter names, and far from them.
var edges = []int{math.MinInt, math.MinInt + 1, -1 << 32, -33, -32, -2, -1, 0, 1, 2, 3, 31, 32, 33, 34, 64, 1 << 16, 1<<32 + 1, math.MaxInt - 1, math.MaxInt}

func field(n int, v string) api.Field { return api.Field{Number: n, Value: v} }

func kids(n int, l ...api.Node) api.Field { return api.Field{Number: n, Kids: l} }

func of(mti string, l ...api.Field) api.Message { return api.Message{MTI: mti, Fields: l} }

// request has the fields 3 and 4.
func request(mti, processing, amount string) api.Message {
	return of(mti, field(3, processing), field(4, amount))
}

// says has a field 39.
func says(mti, code string) api.Message { return of(mti, field(39, code)) }

func debit(amount int) api.Message { return request("0200", "000000", fmt.Sprintf("%012d", amount)) }

func credit(amount int) api.Message { return request("0200", "200000", fmt.Sprintf("%012d", amount)) }

func debitBack(amount int) api.Message {
	return request("0420", "000000", fmt.Sprintf("%012d", amount))
}

func creditBack(amount int) api.Message {
	return request("0420", "200000", fmt.Sprintf("%012d", amount))
}

// answerOf is the type of answers, by the words of chapter 11.
func answerOf(mti string) string { return mti[:2] + string(mti[2]+1) + "0" }

func made(t *testing.T, links int) *totals.Book {
	t.Helper()
	b, e := totals.New(links)
	if b == nil || e != api.OK {
		t.Fatalf("22.1: New(%d) is %d, and a book: %v", links, e, b != nil)
	}
	return b
}

func notes(t *testing.T, b *totals.Book, want api.Errno, link int, x, y api.Message) {
	t.Helper()
	if e := b.Note(link, x, y); e != want {
		t.Fatalf("22.2: Note(%d, %.200v, %.200v) = %d; must be %d", link, x, y, e, want)
	}
}

// approves notes requests that are told yes.
func approves(t *testing.T, b *totals.Book, link int, all ...api.Message) {
	t.Helper()
	for _, x := range all {
		notes(t, b, api.OK, link, x, says(answerOf(x.MTI), "00"))
	}
}

// overflows holds that requests which are told yes have no room.
func overflows(t *testing.T, b *totals.Book, link int, all ...api.Message) {
	t.Helper()
	for _, x := range all {
		notes(t, b, api.ErrTotals, link, x, says(answerOf(x.MTI), "00"))
	}
}

func counts(t *testing.T, b *totals.Book, link int, want api.Counts) {
	t.Helper()
	if c, e := b.Counts(link); c != want || e != api.OK {
		t.Fatalf("22.3: Counts(%d) = %+v, %d; must be %+v", link, c, e, want)
	}
	if l, e := b.Fields(link); !slices.EqualFunc(l, fieldsOf(want), sameField) || e != api.OK {
		t.Fatalf("22.3: Fields(%d) = %v, %d; must be %v", link, l, e, fieldsOf(want))
	}
}

func settles(t *testing.T, b *totals.Book, want bool, link int, m api.Message) {
	t.Helper()
	if ok, e := b.Settle(link, m); ok != want || e != api.OK {
		t.Fatalf("22.4: Settle(%d, %.200v) = %v, %d; must be %v", link, m, ok, e, want)
	}
}

// sums holds what books have together.
func sums(t *testing.T, books []*totals.Book, want ...api.Counts) {
	t.Helper()
	if l, e := totals.Sum(books...); !slices.Equal(l, want) || e != api.OK {
		t.Fatalf("22.5: Sum of %d books = %+v, %d; must be %+v", len(books), l, e, want)
	}
}

// refusesSum holds that books have no sum.
func refusesSum(t *testing.T, want api.Errno, books ...*totals.Book) {
	t.Helper()
	if l, e := totals.Sum(books...); len(l) != 0 || e != want {
		t.Fatalf("22.5: Sum of %d books = %+v, %d; must be %d", len(books), l, e, want)
	}
}

// fieldsOf is how a reconciliation tells counts.
func fieldsOf(c api.Counts) []api.Field {
	var l []api.Field
	for i, n := range []int{c.Credits, c.CreditsBack, c.Debits, c.DebitsBack} {
		l = append(l, field(74+i, fmt.Sprintf("%010d", n)))
	}
	for i, n := range []int{c.CreditSum, c.CreditBackSum, c.DebitSum, c.DebitBackSum} {
		l = append(l, field(86+i, fmt.Sprintf("%016d", n)))
	}
	return l
}

func sameField(a, b api.Field) bool {
	return a.Number == b.Number && a.Value == b.Value && len(a.Kids) == 0 && len(b.Kids) == 0
}

func oneOf[T any](r *rand.Rand, l ...T) T { return l[r.Intn(len(l))] }

// allTypes are those that there are.
func allTypes() []string {
	var l []string
	for _, v := range []string{"0", "1"} {
		for _, s := range []string{"100", "101", "110", "120", "121", "130", "200", "201", "210", "220", "221", "230", "420", "421", "430", "500", "501", "510", "800", "801", "810"} {
			l = append(l, v+s)
		}
	}
	return l
}

// asked are those whose answers are counted.
func asked() []string {
	var l []string
	for _, v := range []string{"0", "1"} {
		for _, s := range []string{"100", "101", "120", "121", "200", "201", "220", "221", "420", "421"} {
			l = append(l, v+s)
		}
	}
	return l
}

// wrongTypes are none.
var wrongTypes = []string{"", "0", "02", "020", "02000", "0200 ", " 0200", "0200\x00", "x", "x200", "2200", "0300", "0400", "0401", "0410", "0240", "0250", "0202", "0211", "0203", "020x", "02x0", "0x00", "0520", "0820", "9999", "0600", "0000", "\xff200", "０２００"}

// Values of the fields 3, 4 and 39, right ones and others.
var (
	processings = []string{"", "2", "20", "29", "2/", "2:", "2x", "2 ", "02", "12", "30", "200000", "220000", "290000", "2x0000", "000000", "010000", "320000", "20\x00", "2\x000", " 20", "\xb2\xb00", "２０", "20x"}
	amounts     = []string{"", "0", "5", "7", "000000001000", "000000000000", "00000000001", "0000000001000", "1000000000000", "0000000000005", "12345", " 5", "5 ", "+5", "-5", "1.5", "0x10", "1_0", "5\n", "\x00", "x", "５", "12345678901x", "٣"}
	codes       = []string{"", "0", "00", "000", "00 ", " 00", "0\x00", "01", "10", "05", "51", "OO", "００", "91"}
)

// someField is one that is looked at, or not.
func someField(r *rand.Rand) api.Field {
	switch n := oneOf(r, 3, 3, 4, 4, 39, 39, 39, 2, 7, 74, 0, -1); n {
	case 3:
		return field(3, oneOf(r, processings...))
	case 4:
		return field(4, oneOf(r, append(amounts, fmt.Sprint(r.Intn(1_000_000)))...))
	case 39:
		return field(39, oneOf(r, append(codes, "00", "00", "00", "00")...))
	default:
		return field(n, "00")
	}
}

// some is any message, of a type that is told or of another one; its fields stand in any order, and some twice.
func some(r *rand.Rand, mti string) api.Message {
	m := of(oneOf(r, mti, mti, mti, mti, mti, mti, mti, oneOf(r, allTypes()...), oneOf(r, wrongTypes...)))
	for range r.Intn(7) {
		f := someField(r)
		if r.Intn(10) == 0 {
			f.Kids = []api.Node{{Tag: 1, Value: "00"}}
		}
		if r.Intn(20) == 0 {
			f.Value = ""
		}
		m.Fields = append(m.Fields, f)
	}
	return m
}

// somePair is a message and, mostly, an answer to it.
func somePair(r *rand.Rand) (api.Message, api.Message) {
	x := some(r, oneOf(r, asked()...))
	y := "0210"
	if len(x.MTI) == 4 {
		y = answerOf(x.MTI)
	}
	a := some(r, y)
	if r.Intn(2) == 0 {
		a.Fields = slices.Insert(a.Fields, 0, field(39, "00"))
	}
	if r.Intn(4) == 0 {
		x.Fields = slices.Insert(x.Fields, 0, field(3, "200000"))
	}
	return x, a
}
