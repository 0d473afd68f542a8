package journal_test

import (
	"hash/crc32"
	"math/big"
	"strings"

	"turnstile/api"
	"turnstile/journal"
)

// A second reading of what Open takes: a body is read loosely, and is an entry's if that, written anew, is the same bytes.

// loose takes numbers and texts off bytes; ok: there were such.
type loose struct {
	rest string
	ok   bool
}

func (l *loose) number() int {
	n := strings.IndexFunc(l.rest, func(r rune) bool { return r < 128 }) // bytes from 128 on are no such runes, whatever they are
	if n < 0 || !l.ok {
		l.ok = false
		return 0
	}
	x := new(big.Int)
	for i := n; i >= 0; i-- {
		x.Mul(x, groups)
		x.Add(x, big.NewInt(int64(l.rest[i])%128))
	}
	l.rest = l.rest[n+1:]
	if x.Bit(0) == 1 {
		x.Add(x, big.NewInt(1))
		x.Neg(x)
	}
	x.Quo(x, big.NewInt(2))
	if !x.IsInt64() {
		l.ok = false
		return 0
	}
	return int(x.Int64())
}

func (l *loose) text() string {
	n := l.number()
	if n < 0 || n > len(l.rest) {
		l.ok = false
		return ""
	}
	s := l.rest[:n]
	l.rest = l.rest[n:]
	return s
}

// readBody is the entry of a body; false: it is none's.
func readBody(body string) (journal.Entry, bool) {
	l := &loose{rest: body, ok: true}
	var e journal.Entry
	e.Event.Kind = l.number()
	e.Event.Link = l.number()
	e.Event.N = l.number()
	e.Event.Bytes = l.text()
	many := l.number()
	for i := 0; i < many && l.ok; i++ {
		var o api.Output
		o.Kind = l.number()
		o.Link = l.number()
		o.Code = api.Errno(l.number())
		o.At = l.number()
		o.Bytes = l.text()
		e.Outputs = append(e.Outputs, o)
	}
	return e, l.ok && len(body) <= mostBody && bodyBytes(e) == body
}

// readAll is the entries that stand at the beginning of bytes, and how many bytes these have.
func readAll(b string) ([]journal.Entry, int) {
	var l []journal.Entry
	at := 0
	for {
		head := four(len(l) + 1)
		rest, ok := strings.CutPrefix(b[at:], head)
		if !ok || len(rest) < 8 {
			return l, at
		}
		size := 0
		for _, c := range []byte(rest[:4]) {
			size = size*256 + int(c)
		}
		if size > len(rest)-8 {
			return l, at
		}
		e, ok := readBody(rest[4 : 4+size])
		end := at + 8 + size
		if !ok || b[end:end+4] != four(int(crc32.ChecksumIEEE([]byte(b[at:end])))) {
			return l, at
		}
		l = append(l, e)
		at = end + 4
	}
}
