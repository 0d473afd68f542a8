package scan

import (
	"strings"

	"turnstile/api"
	"turnstile/digits"
	"turnstile/tlv"
)

// row is how a field stands.
type row struct {
	way
	spec  api.FieldSpec
	least int // characters that it must have
}

// way is how a class is read and written.
type way struct {
	wrong func(content string, count int) (api.Errno, int) // the first defect of so many characters, and at which byte
	read  func(content string, count int) api.Field        // of what has none; its number is another's
	write func(f api.Field) (string, int)                  // of what a field may be; and how many characters that is
}

func newRow(s api.FieldSpec, all texts) *row {
	r := &row{spec: s, least: 1}
	switch s.Class {
	case api.ClassB:
		r.way = plainWay()
	case api.ClassT:
		r.way = kidsWay(tlv.Parse, tlv.Build)
	case api.ClassS:
		r.way = kidsWay(tlv.ParseSub, tlv.BuildSub)
	case api.ClassX:
		r.least = 2
		fallthrough
	default:
		r.way = all.of(kind{s.Class, s.Enc}).way()
	}
	return r
}

// plainWay is that of bytes as they are.
func plainWay() way {
	return way{
		wrong: func(string, int) (api.Errno, int) { return api.OK, 0 },
		read:  func(content string, _ int) api.Field { return api.Field{Value: strings.Clone(content)} },
		write: func(f api.Field) (string, int) { return f.Value, len(f.Value) },
	}
}

// kidsWay is that of things with tags.
func kidsWay(parse func(string) ([]api.Node, api.Errno, int), build func([]api.Node) (string, api.Errno)) way {
	return way{
		wrong: func(content string, _ int) (api.Errno, int) {
			if _, e, at := parse(content); e != api.OK {
				return api.DefInner, at
			}
			return api.OK, 0
		},
		read: func(content string, _ int) api.Field {
			l, _, _ := parse(content)
			return api.Field{Kids: l}
		},
		write: func(f api.Field) (string, int) {
			b, _ := build(f.Kids)
			return b, len(b)
		},
	}
}

// length is how many characters a field at the front of b has, and how many bytes say so; or what is wrong with these.
func (r *row) length(b string) (count, size int, wrong api.Errno) {
	if r.spec.Digits == 0 {
		return r.spec.Size, 0, api.OK
	}
	count, e, size := digits.Length(r.spec.LenEnc, r.spec.Digits, b)
	switch {
	case e == api.ErrShort:
		return 0, 0, api.DefShort
	case e != api.OK || count < r.least || count > r.spec.Size:
		return 0, 0, api.DefLength
	}
	return count, size, api.OK
}

// bytes need not ask whether there is a length: Prefix refuses one of no digits, and writes nothing.
func (r *row) bytes(f api.Field) string {
	content, count := r.write(f)
	length, _ := digits.Prefix(r.spec.LenEnc, r.spec.Digits, count)
	return length + content
}
