package tlv

import (
	"strings"

	"turnstile/api"
)

const (
	step       = "  " // ahead of a line, for each list that its node stands within
	noTag      = "?"
	sixteenths = "0123456789ABCDEF"
)

func writeLine(b *strings.Builder, deep int, n api.Node) {
	b.WriteString(strings.Repeat(step, deep-1))
	if tagSize(n.Tag) > 0 {
		writeSixteenths(b, string(appendTag(nil, n.Tag)))
	} else {
		b.WriteString(noTag)
	}
	if n.Value != "" {
		b.WriteByte(' ')
		writeSixteenths(b, n.Value)
	}
	b.WriteByte('\n')
}

func writeSixteenths(b *strings.Builder, s string) {
	for i := range len(s) {
		b.WriteByte(sixteenths[s[i]>>4])
		b.WriteByte(sixteenths[s[i]&15])
	}
}
