package journal

import (
	"errors"

	"turnstile/api"
)

// Parts of a record: two words stand ahead of its body, one behind it.
const (
	wordSize = 4
	headSize = 2 * wordSize
	sumSize  = wordSize
)

// errEnd tells that no bytes are left; nothing is wrong then.
var errEnd = errors.New("journal: no bytes are left")

// record is an entry with its number, and the bytes that say it.
type record struct {
	number int
	entry  Entry
	bytes  string
}

// recordOf writes the record of a body that fits.
func recordOf(number int, body string) string {
	s := word(uint32(number)) + word(uint32(len(body))) + body
	return s + word(Sum(s))
}

// firstOf is the record at the beginning of bytes; false: none with that number stands there.
func firstOf(b string, number int) (record, bool) {
	if len(b) < headSize+sumSize || int(wordOf(b)) != number {
		return record{}, false
	}
	size := int(wordOf(b[wordSize:]))
	if size > mostBody || size > len(b)-headSize-sumSize {
		return record{}, false
	}
	end := headSize + size
	e, ok := entryOf(b[headSize:end])
	if !ok || wordOf(b[end:]) != Sum(b[:end]) {
		return record{}, false
	}
	return record{number: number, entry: e, bytes: b[:end+sumSize]}, true
}

// word is a number in four bytes, the highest first.
func word(n uint32) string {
	return string([]byte{byte(n >> 24), byte(n >> 16), byte(n >> 8), byte(n)})
}

// wordOf is the number in the first four bytes, which must be there.
func wordOf(b string) uint32 {
	return uint32(b[0])<<24 | uint32(b[1])<<16 | uint32(b[2])<<8 | uint32(b[3])
}

// cutter cuts the records of bytes off, one behind the other.
type cutter struct {
	bytes   string
	at      int // where the next one begins
	count   int
	records chan record
	ends    chan error
}

// cutterOf makes one. Each channel has room for one thing, so that sending it need not wait.
func cutterOf(b string) *cutter {
	return &cutter{bytes: b, records: make(chan record, 1), ends: make(chan error, 1)}
}

// next is the record that comes; without one errEnd, or a *Fault.
func (c *cutter) next() (record, error) {
	c.cut()
	select { // just one of them has something: there is no choice
	case r := <-c.records:
		return r, nil
	case err := <-c.ends:
		return record{}, err
	}
}

// cut sends the record that comes, or why there is none.
func (c *cutter) cut() {
	rest := c.bytes[c.at:]
	r, ok := firstOf(rest, c.count+1)
	switch {
	case ok:
		c.at += len(r.bytes)
		c.count++
		c.records <- r
	case rest == "":
		c.ends <- errEnd
	default:
		c.ends <- &Fault{At: c.at, Code: api.ErrJournal}
	}
}
