package tree

import (
	"strings"

	"turnstile/api"
	"turnstile/digits"
	"turnstile/grammar"
	"turnstile/tlv"
)

// class is how the content of a field is read and written: its number and its length are another's.
type class interface {
	// read takes so many characters, whose bytes are there.
	read(r *reader, count int) api.Field
	// write is the bytes of what a field may be, and how many characters they are.
	write(f api.Field) (string, int)
}

// classOf is the class of a spec that is right.
func classOf(s api.FieldSpec) class {
	switch s.Class {
	case api.ClassX:
		return signed{text{api.ClassN, s.Enc}}
	case api.ClassB:
		return plain{}
	case api.ClassT:
		return nodes{}
	case api.ClassS:
		return subs{}
	}
	return text{s.Class, s.Enc}
}

// text is characters, each of which may stand at every place.
type text struct{ class, enc int }

// has tells whether characters are such as the class has.
func (t text) has(s string) bool {
	return grammar.Value(api.FieldSpec{Class: t.class, Size: len(s)}, api.Field{Value: s})
}

func (t text) read(r *reader, count int) api.Field {
	return api.Field{Value: r.characters(t.enc, count, t.has, api.DefContent)}
}

func (t text) write(f api.Field) (string, int) {
	b, _ := digits.Pack(t.enc, f.Value)
	return b, len(f.Value)
}

// signed is a sign, and a text behind it; it is written as a text is.
type signed struct{ text }

func isSign(s string) bool { return s == "C" || s == "D" }

func (s signed) read(r *reader, count int) api.Field {
	sign := r.characters(s.enc, 1, isSign, api.DefContent)
	f := s.text.read(r, count-1)
	f.Value = sign + f.Value
	return f
}

// plain is bytes as they are.
type plain struct{}

func (plain) read(r *reader, count int) api.Field {
	return api.Field{Value: strings.Clone(r.take(count))}
}

func (plain) write(f api.Field) (string, int) { return f.Value, len(f.Value) }

// nodes are things with tags, one within another.
type nodes struct{}

func (nodes) read(r *reader, count int) api.Field { return kids(r, count, tlv.Parse) }

func (nodes) write(f api.Field) (string, int) {
	b, _ := tlv.Build(f.Kids)
	return b, len(b)
}

// subs are sub-elements.
type subs struct{}

func (subs) read(r *reader, count int) api.Field { return kids(r, count, tlv.ParseSub) }

func (subs) write(f api.Field) (string, int) {
	b, _ := tlv.BuildSub(f.Kids)
	return b, len(b)
}

// kids are what a way to read finds in so many bytes.
func kids(r *reader, count int, way func(string) ([]api.Node, api.Errno, int)) api.Field {
	from := r.at
	l, e, at := way(r.take(count))
	r.must(e == api.OK, api.DefInner, from+at)
	return api.Field{Kids: l}
}
