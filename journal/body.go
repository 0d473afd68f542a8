package journal

import (
	"strings"

	"turnstile/api"
)

// mostBody is how many bytes a body has at most.
const mostBody = 10000000

// A byte of a number has seven bits of it, and one that tells whether more bytes follow.
const (
	groupBits = 7
	more      = 1 << groupBits
	wideBits  = 64
)

// bodyOf is an entry's body. Of one that does not fit not all is written, however much there is, but more than fits.
func bodyOf(e Entry) string {
	var b strings.Builder
	writeNumbers(&b, e.Event.Kind, e.Event.Link, e.Event.N)
	writeText(&b, e.Event.Bytes)
	writeNumbers(&b, len(e.Outputs))
	for _, o := range e.Outputs {
		if b.Len() > mostBody {
			break
		}
		writeNumbers(&b, o.Kind, o.Link, int(o.Code), o.At)
		writeText(&b, o.Bytes)
	}
	return b.String()
}

func writeNumbers(b *strings.Builder, numbers ...int) {
	for _, n := range numbers {
		u := uint64(n) << 1
		if n < 0 {
			u = ^u // -2n - 1
		}
		for ; u >= more; u >>= groupBits {
			b.WriteByte(byte(u) | more)
		}
		b.WriteByte(byte(u))
	}
}

func writeText(b *strings.Builder, s string) {
	writeNumbers(b, len(s))
	b.WriteString(s[:min(len(s), mostBody+1)])
}

// reader reads a body. Where something is wrong it stops: from there on it reads nothing.
type reader struct {
	bytes string // what is not read yet
	wrong bool
}

// entryOf is the entry of a body; false: it is none.
func entryOf(body string) (Entry, bool) {
	r := reader{bytes: body}
	e := Entry{Event: r.event(), Outputs: r.outputs()}
	if r.wrong || r.bytes != "" {
		return Entry{}, false
	}
	return e, true
}

func (r *reader) event() api.Event {
	return api.Event{Kind: r.number(), Link: r.number(), N: r.number(), Bytes: r.text()}
}

// outputs makes room for what is there alone: how many there are may be any number.
func (r *reader) outputs() []api.Output {
	var l []api.Output
	for n := r.count(); n > 0 && !r.wrong; n-- {
		l = append(l, r.output())
	}
	return l
}

func (r *reader) output() api.Output {
	return api.Output{Kind: r.number(), Link: r.number(), Code: api.Errno(r.number()), At: r.number(), Bytes: r.text()}
}

// text is new memory: bodies are pieces of what is handed in, or of the journal.
func (r *reader) text() string {
	n := r.count()
	if n > len(r.bytes) {
		r.wrong = true
		return ""
	}
	s := strings.Clone(r.bytes[:n])
	r.bytes = r.bytes[n:]
	return s
}

// count is a number that tells how many.
func (r *reader) count() int {
	n := r.number()
	if n < 0 {
		r.wrong = true
		return 0
	}
	return n
}

func (r *reader) number() int {
	u := r.wide()
	if u%2 == 1 {
		return int(^(u / 2)) // of -2n - 1
	}
	return int(u / 2)
}

// wide is what a number is written as.
func (r *reader) wide() uint64 {
	var u uint64
	for bits := 0; bits < wideBits && len(r.bytes) > 0 && !r.wrong; bits += groupBits {
		c := r.bytes[0]
		r.bytes = r.bytes[1:]
		group := uint64(c % more)
		u |= group << bits
		switch {
		case group<<bits>>bits != group || c == 0 && bits > 0: // no room for it, or no need
			r.wrong = true
		case c < more:
			return u
		}
	}
	r.wrong = true
	return 0
}
