package totals

import (
	"turnstile/api"
	"turnstile/digits"
	"turnstile/message"
)

// Digits of types: classes, and functions.
const (
	authorization  = 1
	payment        = 2
	reversal       = 4
	reconciliation = 5

	asking  = 0
	telling = 2
)

// The fields that are looked at, and what they say.
const (
	processingField = 3
	amountField     = 4
	codeField       = 39

	amountDigits = 12
	yes          = "00"
)

// isCounted tells whether answers to messages of a type are counted.
func isCounted(mti string) bool {
	switch message.Class(mti) {
	case authorization, payment, reversal:
		return true
	}
	return false
}

// isAnswered tells whether one type is that of answers to another, which may be one that has none.
func isAnswered(request, answer string) bool {
	mti, e := message.Answer(request)
	return e == api.OK && mti == answer
}

func isReconciliation(mti string) bool {
	return message.Class(mti) == reconciliation && message.Function(mti) == asking
}

// broughtBy is what a message of a type that is counted brings with its answer.
func broughtBy(request, answer api.Message) tally {
	var t tally
	code, _ := message.Get(answer, codeField)
	if code == yes {
		number, sum := movedBy(request)
		t[number] = 1
		t[sum] = amount(request)
	}
	switch {
	case message.Class(request.MTI) == reversal: // what it moves back is all
	case message.Function(request.MTI) == telling:
		t[advices] = 1
	case code == yes:
		t[requests], t[approved] = 1, 1
	default:
		t[requests], t[declined] = 1, 1
	}
	return t
}

// movedBy is which number and which sum grow when a message is told yes.
func movedBy(m api.Message) (number, sum int) {
	back := message.Class(m.MTI) == reversal
	switch credit := isCredit(m); {
	case credit && back:
		return creditsBack, creditBackSum
	case credit:
		return credits, creditSum
	case back:
		return debitsBack, debitBackSum
	}
	return debits, debitSum
}

func isCredit(m api.Message) bool {
	s, _ := message.Get(m, processingField)
	return len(s) >= 2 && s[0] == '2' && '0' <= s[1] && s[1] <= '9'
}

// amount is 0, too, where the field says none.
func amount(m api.Message) int {
	s, _ := message.Get(m, amountField)
	if len(s) > amountDigits {
		return 0
	}
	n, _ := digits.Number(s)
	return n
}
