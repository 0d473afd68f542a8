package tlv

import "turnstile/api"

const (
	lowBits = 31  // of the first byte: all of them are 1, if others stand behind it
	markBit = 32  // of the first byte: a node with Kids
	notHere = 128 // as a second byte; a lower one is the last, a higher one has a third behind it, lower than this
)

// tagSize is how many bytes a tag has; 0: the number is none.
func tagSize(tag int) int {
	switch {
	case tag <= 0:
		return 0
	case tag < 1<<8 && !goesOn(tag):
		return 1
	case tag < 1<<16 && goesOn(tag>>8) && tag&0xFF < notHere:
		return 2
	case tag < 1<<24 && goesOn(tag>>16) && tag>>8&0xFF > notHere && tag&0xFF < notHere:
		return 3
	}
	return 0
}

// goesOn tells whether a tag that begins so has more bytes than one.
func goesOn(first int) bool { return first&lowBits == lowBits }

// appendTag puts nothing behind b, if the number is no tag.
func appendTag(b []byte, tag int) []byte {
	for left := tagSize(tag) - 1; left >= 0; left-- {
		b = append(b, byte(tag>>(8*left)))
	}
	return b
}

// marked tells whether a tag stands for a node with Kids.
func marked(tag int) bool {
	b := appendTag(nil, tag)
	return len(b) > 0 && b[0]&markBit != 0
}

func (r *reader) tag() int {
	first := int(r.next())
	must(first != 0, api.ErrTag, r.at-1)
	if !goesOn(first) {
		return first
	}
	second := int(r.next())
	must(second != notHere, api.ErrTag, r.at-1)
	if second < notHere {
		return first<<8 | second
	}
	third := int(r.next())
	must(third < notHere, api.ErrTag, r.at-1)
	return first<<16 | second<<8 | third
}
