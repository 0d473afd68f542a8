package tlv

import "turnstile/api"

// nodes reads all up to the end.
func (r *reader) nodes() []api.Node {
	var l []api.Node
	r.deep++
	for r.at < r.end {
		l = append(l, r.node())
	}
	r.deep--
	return l
}

func (r *reader) node() api.Node {
	r.begin()
	must(r.deep <= api.MaxNest, api.ErrDeep, r.at)
	tag := r.tag()
	size := r.length()
	if marked(tag) {
		return api.Node{Tag: tag, Kids: r.kids(size)}
	}
	return api.Node{Tag: tag, Value: r.text(size)}
}

// kids reads content that is nodes: the end is its own.
func (r *reader) kids(size int) []api.Node {
	r.want(size)
	outer := r.end
	r.end = r.at + size
	l := r.nodes()
	r.end = outer
	return l
}

// wrongNodes is why nodes can't be written, but for their bytes being too many.
func wrongNodes(l []api.Node) api.Errno {
	count := 0
	for deep, n := range All(l) {
		count++
		switch {
		case count > api.MaxNodes:
			return api.ErrMany
		case deep > api.MaxNest:
			return api.ErrDeep
		case !fits(n):
			return api.ErrTag
		}
	}
	return api.OK
}

// fits tells whether a node's Tag is one that stands for what it has.
func fits(n api.Node) bool {
	if marked(n.Tag) {
		return n.Value == ""
	}
	return tagSize(n.Tag) > 0 && len(n.Kids) == 0
}

// listSize is how many bytes nodes are.
func listSize(l []api.Node) int {
	all := 0
	for _, n := range l {
		inner := contentSize(n)
		all += tagSize(n.Tag) + lengthSize(inner) + inner
	}
	return all
}

// contentSize adds both up, since one of them is nothing.
func contentSize(n api.Node) int { return len(n.Value) + listSize(n.Kids) }

// nodeBytes need not go into Kids: they come next by themselves.
func nodeBytes(l []api.Node) string {
	var b []byte
	for _, n := range All(l) {
		b = appendTag(b, n.Tag)
		b = appendLength(b, contentSize(n))
		b = append(b, n.Value...)
	}
	return string(b)
}
