package pending

import (
	"turnstile/api"
	"turnstile/wheel"
)

// slots a wheel has: enough that most time-outs are over within one round.
const slots = 256

// timers are those of the requests that wait, and of those that are remembered. The wheels are fields: a table in which they stood bare would have their exported calls, too.
type timers struct {
	waiting    *wheel.Wheel[*held]
	remembered *wheel.Wheel[*held]
	timeout    int
	late       int
	oldest     int // all timers of remembered up to it are over or stopped
}

// newTimers has none yet. So many slots no wheel refuses.
func newTimers(timeout, late int) timers {
	waiting, _ := wheel.New[*held](slots)
	remembered, _ := wheel.New[*held](slots)
	return timers{waiting: waiting, remembered: remembered, timeout: timeout, late: late}
}

func (t *timers) wait(h *held) {
	h.timer, _ = t.waiting.Add(t.timeout, h)
}

func (t *timers) remember(h *held) {
	h.late = true
	h.timer, _ = t.remembered.Add(t.late, h)
}

func (t *timers) stop(h *held) {
	if h.late {
		t.remembered.Cancel(h.timer)
	} else {
		t.waiting.Cancel(h.timer)
	}
}

// stopOldest stops the timer of the one that is remembered longest; there must be one. Timers' numbers rise, so none is asked twice.
func (t *timers) stopOldest() *held {
	for {
		t.oldest++
		if h, e := t.remembered.Cancel(t.oldest); e == api.OK {
			return h
		}
	}
}
