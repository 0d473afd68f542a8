package shell

import (
	"turnstile/api"
	"turnstile/core"
	"turnstile/journal"
)

// player plays a script: it lets happen what that says, and tells what came of it.
type player struct {
	page
	setting api.Config
	stack   int
	played  *core.Switch
	keys    []string // of each link, by which its tags are made
	journal *journal.Journal
	lost    bool // something does not stand in the journal
}

// newPlayer is of a configuration that is right, and of a stack that there is.
func newPlayer(c api.Config, stack int) *player {
	p := &player{setting: c, stack: stack, journal: journal.New()}
	p.played, _, _ = core.New(c, stack)
	for _, l := range c.Links {
		p.keys = append(p.keys, l.Key)
	}
	return p
}

// happens lets an event happen.
func (p *player) happens(e api.Event) {
	outputs, code := p.played.Step(e)
	if code != api.OK {
		p.tellRefused(code)
		return
	}
	p.keep(journal.Entry{Event: e, Outputs: outputs})
	for _, o := range outputs {
		p.tell(o)
	}
}

// keep lays an entry down, unless it does not fit, or one ahead of it did not.
func (p *player) keep(e journal.Entry) {
	p.lost = p.lost || p.journal.Append(e) != nil
}

// dialect is that of a link.
func (p *player) dialect(l api.Link) api.Dialect { return p.setting.Dialects[l.Dialect] }
