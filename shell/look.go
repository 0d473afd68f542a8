package shell

import "turnstile/api"

// tellView tells what can be seen of the switch.
func (p *player) tellView() {
	v := p.played.View()
	moment := min(p.setting.Start+v.Now, api.MaxMoment)
	p.line("time", showMoment(moment), "ticks", wordsOf(v.Now), "pending", wordsOf(v.Pending), "late", wordsOf(v.Late))
	for i, l := range p.setting.Links {
		up, ready, c := "down", "off", v.Counts[i]
		if v.Up[i] {
			up = "up"
		}
		if v.Ready[i] {
			ready = "ready"
		}
		p.line(l.Name, up, ready, "held", wordsOf(v.Held[i]), "queued", wordsOf(v.Queued[i]), "dead", wordsOf(v.Dead[i]), "keys", wordsOf(v.Keys[i]),
			wordsOf(c.Requests, c.Approved, c.Declined, c.Advices),
			wordsOf(c.Credits, c.CreditsBack, c.Debits, c.DebitsBack),
			wordsOf(c.CreditSum, c.CreditBackSum, c.DebitSum, c.DebitBackSum))
	}
}

func (p *player) tellWaiting() {
	for _, w := range p.played.Waiting() {
		p.line("wait", p.setting.Links[w.From].Name, p.setting.Links[w.To].Name, wordsOf(w.Number), w.Request.MTI)
	}
}

func (p *player) tellQueued(link int) {
	for _, a := range p.played.Queued(link) {
		p.line("queue", p.setting.Links[link].Name, wordsOf(a.Number), a.Message.MTI)
	}
}
