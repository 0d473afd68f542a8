package stan

import (
	"cmp"
	"slices"

	"turnstile/api"
	"turnstile/message"
)

// Numbers of fields: 65 is none.
const (
	firstField = 2
	lastField  = 128
	noField    = 65
)

// Echo keeps fields of messages under numbers.
type Echo struct {
	fields []int
	kept   map[int][]api.Field // of each number under which something is saved, the message's fields
}

// NewEcho makes one for some fields.
func NewEcho(fields ...int) (*Echo, api.Errno) {
	if len(fields) == 0 || !areFields(fields) {
		return nil, api.ErrArg
	}
	return &Echo{fields: slices.Clone(fields), kept: make(map[int][]api.Field)}, api.OK
}

// Save keeps a message's fields under a number.
func (e *Echo) Save(number int, m api.Message) api.Errno {
	switch {
	case !isNumber(number):
		return api.ErrArg
	case e.has(number):
		return api.ErrTwice
	case !message.Whole(m):
		return api.ErrMessage
	}
	e.kept[number] = message.Keep(m, e.fields...).Fields
	return api.OK
}

// Restore lays them into another message; with none: it as it is, and false.
func (e *Echo) Restore(number int, m api.Message) (api.Message, bool) {
	if !e.has(number) || !message.Whole(m) {
		return message.Copy(m), false
	}
	c := message.Without(m, e.fields...)
	c.Fields = append(c.Fields, copied(e.kept[number])...)
	slices.SortFunc(c.Fields, func(a, b api.Field) int { return cmp.Compare(a.Number, b.Number) })
	return c, true
}

// Drop forgets them.
func (e *Echo) Drop(number int) bool {
	had := e.has(number)
	delete(e.kept, number)
	return had
}

// Len is how many numbers something is kept under.
func (e *Echo) Len() int { return len(e.kept) }

// has tells whether something is saved under a number: of a message that had none of the fields that is an empty list.
func (e *Echo) has(number int) bool {
	_, ok := e.kept[number]
	return ok
}

// copied is fields in memory of their own: what is kept goes out more than once.
func copied(l []api.Field) []api.Field { return message.Copy(api.Message{Fields: l}).Fields }

// areFields tells whether all are fields, and none stands there twice.
func areFields(numbers []int) bool {
	for i, n := range numbers {
		if !isField(n) || slices.Contains(numbers[:i], n) {
			return false
		}
	}
	return true
}

func isField(n int) bool { return firstField <= n && n <= lastField && n != noField }
