package shell

import (
	"slices"

	"turnstile/api"
	"turnstile/frame"
	"turnstile/grammar"
	"turnstile/seal"
	"turnstile/tlv"
	"turnstile/tree"
)

const (
	tagSize = 8
	noughts = "\x00\x00\x00\x00\x00\x00\x00\x00" // in the place of a tag
)

// send lets a message come over a link, if it can be written.
func (p *player) send(link int, s saying) {
	b, e := p.frameOf(link, s)
	if e != api.OK {
		p.tellRefused(e)
		return
	}
	p.happens(api.Event{Kind: api.EvBytes, Link: link, Bytes: b})
}

// frameOf is a message as it comes over a link, with its tag and its header.
func (p *player) frameOf(link int, s saying) (string, api.Errno) {
	l := p.setting.Links[link]
	d := p.dialect(l)
	if l.MAC != 0 {
		s = s.with(part{number: d.MAC, bytes: noughts})
	}
	m, e := messageOf(d, s)
	if e != api.OK {
		return "", e
	}
	b, e, _ := tree.Build(d, m)
	if e == api.OK && l.MAC != 0 {
		b, e = sealed(l, p.keys[link], b)
	}
	if e != api.OK {
		return "", e
	}
	return frame.Wrap(l.Header, l.Most, b)
}

// with is what is said, with a part in the place of the one of its number, or where that belongs.
func (s saying) with(p part) saying {
	var all []part
	for _, one := range s.parts {
		if one.number != p.number {
			all = append(all, one)
		}
	}
	all = append(all, p)
	slices.SortFunc(all, byNumber)
	return saying{mti: s.mti, parts: all}
}

// messageOf is what is said as a dialect's message; the error is that of the first nodes that can't be read.
func messageOf(d api.Dialect, s saying) (api.Message, api.Errno) {
	m := api.Message{MTI: s.mti}
	for _, p := range s.parts {
		f, e := p.field(d)
		if e != api.OK {
			return api.Message{}, e
		}
		m.Fields = append(m.Fields, f)
	}
	return m, api.OK
}

func (p part) field(d api.Dialect) (api.Field, api.Errno) {
	f, e := api.Field{Number: p.number}, api.OK
	spec, _ := grammar.Spec(d, p.number)
	switch {
	case p.isHex && spec.Class == api.ClassT:
		f.Kids, e, _ = tlv.Parse(p.bytes)
	case p.isHex && spec.Class == api.ClassS:
		f.Kids, e, _ = tlv.ParseSub(p.bytes)
	default:
		f.Value = p.bytes
	}
	return f, e
}

// sealed is a message whose last bytes are its tag by a key.
func sealed(l api.Link, key, b string) (string, api.Errno) {
	ahead := b[:len(b)-tagSize]
	tag, e := seal.Tag(l.MAC, l.Pad, key, ahead)
	return ahead + tag, e
}
