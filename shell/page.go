package shell

import (
	"slices"
	"strconv"
	"strings"

	"turnstile/api"
	"turnstile/digits"
)

// page is a text that is written line by line.
type page struct{ strings.Builder }

// line writes words. One that is empty is left out.
func (p *page) line(words ...string) {
	there := slices.DeleteFunc(words, func(w string) bool { return w == "" })
	p.WriteString(strings.Join(there, " "))
	p.WriteByte('\n')
}

// wordsOf writes numbers.
func wordsOf(numbers ...int) string {
	var l []string
	for _, n := range numbers {
		l = append(l, strconv.Itoa(n))
	}
	return strings.Join(l, " ")
}

// nameOf is the one of some names that has a number.
func nameOf(names string, number int) string { return strings.Fields(names)[number-1] }

// config writes a configuration that is right.
func (p *page) config(c api.Config) {
	for _, d := range c.Dialects {
		p.dialect(d)
	}
	for _, l := range c.Links {
		p.link(l, c.Dialects[l.Dialect].Name)
	}
	for _, g := range c.Groups {
		words := []string{"group", g.Name, wordsOf(g.Standin.Single, g.Standin.Count, g.Standin.Sum, g.Standin.Window)}
		for _, n := range g.Links {
			words = append(words, c.Links[n].Name)
		}
		p.line(words...)
	}
	for _, r := range c.Routes {
		p.line("route", r.Prefix, c.Groups[r.Group].Name)
	}
	p.line("start", showMoment(c.Start))
	p.line("table", wordsOf(c.Pending, c.Timeout, c.Late, c.Cards, c.Numbers))
	p.line("queue", wordsOf(c.Queue, c.Retry, c.Tries))
}

func (p *page) dialect(d api.Dialect) {
	p.line("dialect", d.Name, wordsOf(d.Version), nameOf(encodings, d.MTIEnc), nameOf(encodings, d.MapEnc), wordsOf(d.MAC))
	for _, f := range d.Fields {
		head := []string{"field", wordsOf(f.Number), nameOf(classes, f.Class), nameOf(encodings, f.Enc)}
		if f.Digits == 0 {
			p.line(append(head, "fixed", wordsOf(f.Size))...)
		} else {
			p.line(append(head, "var", wordsOf(f.Digits), nameOf(encodings, f.LenEnc), wordsOf(f.Size))...)
		}
	}
	for _, r := range d.Rules {
		p.line("rule", r.MTI, "must", wordsOf(r.Must...), "may", wordsOf(r.May...))
	}
}

func (p *page) link(l api.Link, dialect string) {
	p.line("link", l.Name, nameOf(roles, l.Role), dialect, nameOf(headers, l.Header), wordsOf(l.Most), l.ID)
	if l.MAC != 0 {
		exchange := none
		if l.Exchange != "" {
			exchange = digits.Hex(l.Exchange)
		}
		p.line("tags", wordsOf(l.MAC, l.Pad), digits.Hex(l.Key), exchange)
	}
	if l.PIN != "" {
		p.line("pin", digits.Hex(l.PIN))
	}
	p.line("wait", wordsOf(l.Echo, l.Answer))
}
