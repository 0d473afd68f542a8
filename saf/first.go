package saf

import (
	"turnstile/api"
	"turnstile/digits"
	"turnstile/message"
)

// course is how far the sending of the first one has come: no other one is sent, so there is but one of it.
type course struct {
	sent     int
	underWay bool
	ticks    int // since it was sent last, up to when it may be sent again
}

// send sends the first one; there must be one.
func (q *Queue) send() api.Message {
	a := q.waits[0]
	q.first = course{sent: q.first.sent + 1, underWay: true}
	if q.first.sent == 1 {
		return message.Copy(a.Message)
	}
	return message.Copy(a.Repeat)
}

// giveUp gives the first one up; there must be one.
func (q *Queue) giveUp() {
	q.gone = append(q.gone, q.waits[0].Number)
	q.dead = digits.Count(q.dead, 1, api.MaxQueue)
	q.takeOut()
}

// takeOut lets the first one wait no more. The place that is left at the end is cleared: else an advice would be kept there when it is done, too.
func (q *Queue) takeOut() {
	last := copy(q.waits, q.waits[1:])
	clear(q.waits[last:])
	q.waits = q.waits[:last]
	q.first = course{}
}

// copied is an advice in memory of its own.
func copied(a api.Advice) api.Advice {
	a.Message = message.Copy(a.Message)
	a.Repeat = message.Copy(a.Repeat)
	return a
}
