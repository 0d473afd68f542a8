package totals

import (
	"turnstile/api"
	"turnstile/digits"
)

// What is counted of a link: the numbers, and behind them the sums.
const (
	requests = iota
	approved
	declined
	advices
	credits
	creditsBack
	debits
	debitsBack
	creditSum
	creditBackSum
	debitSum
	debitBackSum
	kinds // how many there are
)

// How many digits a number and a sum have, and the greatest that these can say.
const (
	numberDigits = 10
	sumDigits    = 16
	mostNumber   = 9999999999
	mostSum      = 9999999999999999
)

// toldIn is in which field a reconciliation tells what.
var toldIn = [...]struct{ field, kind int }{
	{74, credits},
	{75, creditsBack},
	{76, debits},
	{77, debitsBack},
	{86, creditSum},
	{87, creditBackSum},
	{88, debitSum},
	{89, debitBackSum},
}

// tally is what was counted, by its kinds.
type tally [kinds]int

func isSum(kind int) bool { return kind >= creditSum }

func mostOf(kind int) int {
	if isSum(kind) {
		return mostSum
	}
	return mostNumber
}

func digitsOf(kind int) int {
	if isSum(kind) {
		return sumDigits
	}
	return numberDigits
}

// plus is two together. What is above its most stays one above it, whatever comes then: so nothing goes round, and the order in which many are added does not count.
func (t tally) plus(more tally) tally {
	for kind := range kinds {
		t[kind] = digits.Count(t[kind], more[kind], mostOf(kind)+1)
	}
	return t
}

// isOver tells whether something is above its most.
func (t tally) isOver() bool {
	for kind, n := range t {
		if n > mostOf(kind) {
			return true
		}
	}
	return false
}

func (t tally) counts() api.Counts {
	return api.Counts{
		Requests:      t[requests],
		Approved:      t[approved],
		Declined:      t[declined],
		Advices:       t[advices],
		Credits:       t[credits],
		CreditsBack:   t[creditsBack],
		Debits:        t[debits],
		DebitsBack:    t[debitsBack],
		CreditSum:     t[creditSum],
		CreditBackSum: t[creditBackSum],
		DebitSum:      t[debitSum],
		DebitBackSum:  t[debitBackSum],
	}
}

// fields is what a reconciliation tells of a tally in which nothing is above its most.
func (t tally) fields() []api.Field {
	var l []api.Field
	for _, told := range toldIn {
		value, _ := digits.Write(t[told.kind], digitsOf(told.kind))
		l = append(l, api.Field{Number: told.field, Value: value})
	}
	return l
}
