package shell

import (
	"strings"

	"turnstile/api"
	"turnstile/digits"
	"turnstile/grammar"
	"turnstile/message"
	"turnstile/money"
	"turnstile/tlv"
	"turnstile/tree"
)

// How values are told.
const (
	inHex    = "$" // ahead of sixteenths
	forBlank = "_"
)

// Fields of which an amount is told.
const (
	amountField   = 4
	currencyField = 49
)

func (p *player) tellRefused(code api.Errno) { p.line("?", wordsOf(int(code))) }

// tell tells what the switch does.
func (p *player) tell(o api.Output) {
	l := p.setting.Links[o.Link]
	switch o.Kind {
	case api.OutFrame:
		p.tellFrame(l, o.Bytes)
	case api.OutReject:
		p.line("!", l.Name, wordsOf(int(o.Code), o.At))
	case api.OutClose:
		p.line("x", l.Name, wordsOf(int(o.Code)))
	}
}

func (p *player) tellFrame(l api.Link, b string) {
	d := p.dialect(l)
	m, _ := tree.Parse(d, b[headerSize(l.Header):])
	words := []string{">", l.Name, m.MTI}
	for _, f := range m.Fields {
		words = append(words, wordsOf(f.Number)+"="+valueOf(d, f))
	}
	p.line(append(words, amountOf(m))...)
}

// headerSize is how many bytes stand ahead of a message.
func headerSize(header int) int {
	if header == api.HeadFour {
		return 4
	}
	return 2
}

func valueOf(d api.Dialect, f api.Field) string {
	spec, _ := grammar.Spec(d, f.Number)
	switch spec.Class {
	case api.ClassT:
		b, _ := tlv.Build(f.Kids)
		return inHex + digits.Hex(b)
	case api.ClassS:
		b, _ := tlv.BuildSub(f.Kids)
		return inHex + digits.Hex(b)
	}
	if !isPlain(f.Value) {
		return inHex + digits.Hex(f.Value)
	}
	return strings.ReplaceAll(f.Value, " ", forBlank)
}

// isPlain tells whether a value can be told as it is.
func isPlain(value string) bool {
	return isRow(value, func(c byte) bool { return ' ' <= c && c <= '~' && c != forBlank[0] }) && value[0] != inHex[0]
}

// amountOf is a message's amount, if it has one with a currency that there is.
func amountOf(m api.Message) string {
	amount, _ := message.Get(m, amountField)
	currency, _ := message.Get(m, currencyField)
	units, e := digits.Number(amount)
	if e != api.OK {
		return ""
	}
	shown, e := money.Show(units, currency)
	if e != api.OK {
		return ""
	}
	return "(" + shown + ")"
}
