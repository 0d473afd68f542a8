package totals_test

import (
	"testing"

	"turnstile/api"
	"turnstile/totals"
)

func TestExampleOne(t *testing.T) {
	b := made(t, 2)
	notes(t, b, api.OK, 0, request("0200", "000000", "000000001000"), says("0210", "00"))
	counts(t, b, 0, api.Counts{Requests: 1, Approved: 1, Debits: 1, DebitSum: 1000})
	notes(t, b, api.OK, 0, request("0200", "200000", "000000001000"), says("0210", "00"))
	counts(t, b, 0, api.Counts{Requests: 2, Approved: 2, Debits: 1, DebitSum: 1000, Credits: 1, CreditSum: 1000})
	notes(t, b, api.OK, 0, request("0200", "000000", "000000001000"), says("0210", "51"))
	notes(t, b, api.OK, 0, request("0200", "000000", "000000001000"), of("0210"))
	counts(t, b, 0, api.Counts{Requests: 4, Approved: 2, Declined: 2, Debits: 1, DebitSum: 1000, Credits: 1, CreditSum: 1000})
	notes(t, b, api.OK, 0, of("0100"), says("0110", "00"))
	counts(t, b, 0, api.Counts{Requests: 5, Approved: 3, Declined: 2, Debits: 2, DebitSum: 1000, Credits: 1, CreditSum: 1000})
	counts(t, b, 1, api.Counts{})
}

func TestExampleTwo(t *testing.T) {
	b := made(t, 2)
	notes(t, b, api.OK, 0, of("0220", field(4, "5")), says("0230", "00"))
	counts(t, b, 0, api.Counts{Advices: 1, Debits: 1, DebitSum: 5})
	notes(t, b, api.OK, 0, request("0420", "20", "000000001000"), says("0430", "00"))
	want := api.Counts{Advices: 1, Debits: 1, DebitSum: 5, CreditsBack: 1, CreditBackSum: 1000}
	counts(t, b, 0, want)
	notes(t, b, api.ErrMessage, 0, of("0200"), of("0110"))
	notes(t, b, api.ErrMessage, 0, of("0210"), of("0210"))
	notes(t, b, api.ErrMessage, 0, of("0500"), of("0510"))
	notes(t, b, api.ErrSlot, 2, of("0200"), of("0210"))
	notes(t, b, api.ErrSlot, -1, of("0200"), of("0210"))
	counts(t, b, 0, want)
	counts(t, b, 1, api.Counts{})
}

func TestExampleThree(t *testing.T) {
	b := made(t, 2)
	l, e := b.Fields(1)
	if len(l) != 8 || e != api.OK {
		t.Fatalf("22.3: Fields = %v, %d", l, e)
	}
	for i, n := range []int{74, 75, 76, 77, 86, 87, 88, 89} {
		want := field(n, "0000000000")
		if n >= 86 {
			want.Value = "0000000000000000"
		}
		if !sameField(l[i], want) {
			t.Errorf("22.3: Fields: the field %d is %v; must be %v", i, l[i], want)
		}
	}
	settles(t, b, true, 1, of("0500"))
	approves(t, b, 0, request("0200", "000000", "000000001000"))
	settles(t, b, false, 0, of("0500", field(76, "1")))
	settles(t, b, true, 0, of("0500", field(76, "0000000001")))
	counts(t, b, 0, api.Counts{})
	if ok, e := b.Settle(0, of("0800")); ok || e != api.ErrMessage {
		t.Errorf("22.4: Settle of 0800 = %v, %d", ok, e)
	}
}

func TestExampleFour(t *testing.T) {
	b, three := made(t, 2), made(t, 3)
	refusesSum(t, api.ErrArg)
	refusesSum(t, api.ErrArg, b, three)
	approves(t, b, 0, request("0200", "000000", "000000001000"))
	sums(t, []*totals.Book{b, b}, api.Counts{Requests: 2, Approved: 2, Debits: 2, DebitSum: 2000}, api.Counts{})
}
