package core

import (
	"turnstile/api"
	"turnstile/digits"
	"turnstile/message"
	"turnstile/stan"
)

// Numbers of fields.
const (
	amountField    = 4
	stampField     = 7
	numberField    = 11
	acquirerField  = 32
	referenceField = 37
	approvalField  = 38
	codeField      = 39
	keyField       = 48
	pinField       = 52
	agreesField    = 66
	networkField   = 70
	originalField  = 90
)

// Codes of answers.
const (
	granted     = "00"
	noOriginal  = "12"
	noAmount    = "13"
	wrongCard   = "14"
	unknownCard = "15"
	stillWaits  = "21"
	notDone     = "25"
	unwritable  = "30"
	expired     = "54"
	wrongPIN    = "55"
	tooLate     = "68"
	wrongKey    = "81"
	notAsked    = "91"
	unequal     = "95"
	noRoom      = "96"
)

func text(number int, value string) api.Field { return api.Field{Number: number, Value: value} }

// laid is a message with some fields more, or other ones. With refuses nothing of messages that are whole, as all are here, and of such fields.
func laid(m api.Message, fields ...api.Field) api.Message {
	for _, f := range fields {
		m, _ = message.With(m, f)
	}
	return m
}

// valueOf is empty, if the message has no such field.
func valueOf(m api.Message, number int) string {
	value, _ := message.Get(m, number)
	return value
}

func hasField(m api.Message, number int) bool {
	_, has := message.Get(m, number)
	return has
}

// kidsOf are none, if the message has no such field.
func kidsOf(m api.Message, number int) []api.Node {
	for _, f := range m.Fields {
		if f.Number == number {
			return f.Kids
		}
	}
	return nil
}

// countOf is a field's digits as a number; 0, if the message has no such field.
func countOf(m api.Message, number int) int {
	n, _ := digits.Number(valueOf(m, number))
	return n
}

// passed is a message as it goes on, under a number of the switch's own.
func (s *Switch) passed(m api.Message, from *link, number int) api.Message {
	reference, _ := stan.Reference(s.moment(), number)
	return laid(m, text(stampField, s.stamp()), text(numberField, sixDigits(number)), text(acquirerField, from.id), text(referenceField, reference))
}

// toldOf is a request or an advice of a card as it is told later, under a number of the switch's own.
func (s *Switch) toldOf(m api.Message, from *link, number int) api.Message {
	told := s.passed(m, from, number)
	told.MTI, _ = message.Told(m.MTI)
	return told
}

// sixDigits are those of a number that was dealt.
func sixDigits(number int) string {
	six, _ := stan.Field(number)
	return six
}
