package tree

import (
	"turnstile/api"
	"turnstile/digits"
	"turnstile/grammar"
)

// unread is why bytes can't be read on: the value of the panic that gives them up.
type unread api.Defect

// reader is how far bytes are read, and in which field (0: in none).
type reader struct {
	bytes string
	at    int
	field int
}

// read is the message that bytes are, and where its fields stand; or why there is none.
func read(d api.Dialect, b string) (m api.Message, spans [][2]int, defect api.Defect) {
	if e, at := grammar.Right(d); e != api.OK {
		return m, nil, api.Defect{Code: e, Field: at}
	}
	defer func() {
		if given := recover(); given != nil {
			defect = api.Defect(given.(unread)) // any other value is a fault of the program: it stays a panic
		}
	}()
	r := &reader{bytes: b}
	m, spans = r.message(d)
	return m, spans, defect
}

// must gives the bytes up where something does not hold.
func (r *reader) must(holds bool, why api.Errno, at int) {
	if !holds {
		panic(unread{Code: why, Field: r.field, At: at})
	}
}

// want looks whether so many bytes are left.
func (r *reader) want(size int) {
	r.must(size <= len(r.bytes)-r.at, api.DefShort, len(r.bytes))
}

// take is the next bytes, which must be there.
func (r *reader) take(size int) string {
	r.at += size
	return r.bytes[r.at-size : r.at]
}

// characters reads so many of an encoding, whose bytes must be there; wrong: what it is, if others stand there than may. It goes byte by byte, since the first byte that is wrong counts, whatever is wrong with it.
func (r *reader) characters(enc, count int, may func(string) bool, wrong api.Errno) string {
	var all []byte
	for i := range digits.Width(enc, count) {
		at := r.at
		is := r.take(1)
		right, holds := filled(enc, count, i, is[0])
		some, e, _ := digits.Unpack(enc, string([]byte{right}), holds)
		r.must(e == api.OK && may(some), wrong, at)
		r.must(is[0] == right, api.DefPad, at)
		all = append(all, some...)
	}
	return string(all)
}

// filled is a byte with the right filling, and how many characters it holds: the i-th of those of so many characters.
func filled(enc, count, i int, is byte) (byte, int) {
	odd := count%2 == 1
	switch {
	case enc != api.BCD && enc != api.BCDR:
		return is, 1
	case enc == api.BCD && odd && i == 0:
		return is & 0x0F, 1
	case enc == api.BCDR && odd && i == count/2:
		return is | 0x0F, 1
	}
	return is, 2
}
