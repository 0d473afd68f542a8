package tlv

import "turnstile/api"

const mostPair = 99 // two digits: a sub-element's tag, and how many bytes its Value has

// subs reads all up to the end.
func (r *reader) subs() []api.Node {
	var l []api.Node
	for r.at < r.end {
		l = append(l, r.sub())
	}
	return l
}

func (r *reader) sub() api.Node {
	r.begin()
	tag := r.pair(api.ErrTag)
	size := r.pair(api.ErrLength)
	from := r.at
	value := r.text(size)
	seen := seenBytes(value)
	must(seen == size, api.ErrChar, from+seen)
	return api.Node{Tag: tag, Value: value}
}

// pair reads two digits; why: what another byte is.
func (r *reader) pair(why api.Errno) int {
	tens := r.digit(why)
	return 10*tens + r.digit(why)
}

func (r *reader) digit(why api.Errno) int {
	c := r.next()
	must('0' <= c && c <= '9', why, r.at-1)
	return int(c - '0')
}

// seenBytes is how many bytes stand ahead of the first one that can't be seen.
func seenBytes(s string) int {
	for i := range len(s) {
		if s[i] < ' ' || s[i] > '~' {
			return i
		}
	}
	return len(s)
}

// wrongSubs is why sub-elements can't be written, but for their bytes being too many.
func wrongSubs(l []api.Node) api.Errno {
	for i, n := range l {
		switch {
		case i >= api.MaxNodes:
			return api.ErrMany
		case n.Tag < 0 || n.Tag > mostPair || len(n.Kids) > 0:
			return api.ErrTag
		case len(n.Value) > mostPair:
			return api.ErrLength
		case seenBytes(n.Value) < len(n.Value):
			return api.ErrChar
		}
	}
	return api.OK
}

func subBytes(l []api.Node) string {
	var b []byte
	for _, n := range l {
		b = appendPair(b, n.Tag)
		b = appendPair(b, len(n.Value))
		b = append(b, n.Value...)
	}
	return string(b)
}

func appendPair(b []byte, n int) []byte { return append(b, byte('0'+n/10), byte('0'+n%10)) }
