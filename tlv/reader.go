package tlv

import (
	"strings"

	"turnstile/api"
)

// unread is why bytes can't be read on, and where: the value of the panic that gives them up.
type unread struct {
	why api.Errno
	at  int
}

// must gives the bytes up where something does not hold.
func must(holds bool, why api.Errno, at int) {
	if !holds {
		panic(unread{why, at})
	}
}

// reader is how far bytes are read.
type reader struct {
	bytes string
	at    int
	end   int // of all bytes, or, within a node with Kids, of its content
	deep  int
	begun int // nodes, or sub-elements
}

// read is what a way to read finds in bytes, or why and where it gave them up.
func read(b string, way func(*reader) []api.Node) (l []api.Node, why api.Errno, at int) {
	defer func() {
		if r := recover(); r != nil {
			given := r.(unread) // any other value is a fault of the program: it stays a panic
			why, at = given.why, given.at
		}
	}()
	must(len(b) <= api.MaxSize, api.ErrLength, 0)
	return way(&reader{bytes: b, end: len(b)}), api.OK, 0
}

// begin counts what begins here.
func (r *reader) begin() {
	must(r.begun < api.MaxNodes, api.ErrMany, r.at)
	r.begun++
}

// want looks whether so many bytes are left.
func (r *reader) want(size int) { must(size <= r.end-r.at, api.ErrShort, r.end) }

func (r *reader) next() byte {
	r.want(1)
	r.at++
	return r.bytes[r.at-1]
}

// text is the next bytes, as memory of its own.
func (r *reader) text(size int) string {
	r.want(size)
	r.at += size
	return strings.Clone(r.bytes[r.at-size : r.at])
}
