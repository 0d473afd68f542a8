package message_test

import (
	"fmt"
	"regexp"
	"slices"
	"strconv"
	"strings"
	"sync"

	"turnstile/api"
)

// A plain second reading of the chapter is held against the package: types are those of the document's table, nodes are counted row by row, all faults are gathered, and a text is right if it is what is printed of what it seems to say.

const (
	mostNest  = 8
	mostNodes = 500
)

var types = sync.OnceValue(func() []string {
	var l []string
	for _, v := range []string{"0", "1"} {
		for _, t := range strings.Fields("100 101 110 120 121 130 200 201 210 220 221 230 420 421 430 500 501 510 800 801 810") {
			l = append(l, v+t)
		}
	}
	return l
})

func allTypes() []string { return slices.Clone(types()) }

func isType(s string) bool { return slices.Contains(types(), s) }

// typeLike tells whether s is a type that is of a pattern.
func typeLike(s, pattern string) bool {
	return isType(s) && regexp.MustCompile(`\A`+pattern+`\z`).MatchString(s)
}

func isField(n int) bool { return n >= 2 && n <= 128 && n != 65 }

// soundNodes goes over nodes row by row: those of the list, then their Kids, and so on.
func soundNodes(l []api.Node) bool {
	row, count := l, 0
	for deep := 1; len(row) > 0; deep++ {
		if count += len(row); deep > mostNest || count > mostNodes {
			return false
		}
		var next []api.Node
		for _, n := range row {
			if n.Tag < 0 || n.Value != "" && len(n.Kids) > 0 {
				return false
			}
			next = append(next, n.Kids...)
		}
		row = next
	}
	return true
}

func soundField(f api.Field) bool {
	return isField(f.Number) && (f.Value == "" || len(f.Kids) == 0) && soundNodes(f.Kids)
}

func whole(m api.Message) bool {
	ok := isType(m.MTI)
	for i, f := range m.Fields {
		ok = ok && soundField(f) && (i == 0 || m.Fields[i-1].Number < f.Number)
	}
	return ok
}

// seen is all that a message says, as text: two that say the same have the same.
func seen(m api.Message) string {
	var b strings.Builder
	fmt.Fprintf(&b, "%q", m.MTI)
	for _, f := range m.Fields {
		fmt.Fprintf(&b, " %d %q", f.Number, f.Value)
		seeNodes(&b, f.Kids)
	}
	return b.String()
}

func seeNodes(b *strings.Builder, l []api.Node) {
	b.WriteString("(")
	for _, n := range l {
		fmt.Fprintf(b, " %d %q", n.Tag, n.Value)
		seeNodes(b, n.Kids)
	}
	b.WriteString(")")
}

func valueOf(m api.Message, number int) (string, bool) {
	i := slices.IndexFunc(m.Fields, func(f api.Field) bool { return f.Number == number })
	if i < 0 {
		return "", false
	}
	return m.Fields[i].Value, true
}

// those are a message's fields with these numbers, or the others.
func those(m api.Message, with bool, numbers ...int) api.Message {
	return api.Message{MTI: m.MTI, Fields: slices.DeleteFunc(slices.Clone(m.Fields), func(f api.Field) bool {
		return slices.Contains(numbers, f.Number) != with
	})}
}

// laid is a message with these fields in the place of its own.
func laid(m api.Message, l ...api.Field) api.Message {
	for _, f := range l {
		m = those(m, false, f.Number)
		m.Fields = append(m.Fields, f)
	}
	slices.SortFunc(m.Fields, func(a, b api.Field) int { return a.Number - b.Number })
	return m
}

// first is the error of the first fault that there is.
func first(faults ...fault) api.Errno {
	for _, f := range faults {
		if f.is {
			return f.e
		}
	}
	return api.OK
}

type fault struct {
	is bool
	e  api.Errno
}

func withIs(m api.Message, f api.Field) (api.Message, api.Errno) {
	e := first(fault{!isType(m.MTI), api.ErrMTI}, fault{!whole(m), api.ErrMessage}, fault{!isField(f.Number), api.ErrField}, fault{!soundField(f), api.ErrValue})
	if e != api.OK {
		return api.Message{}, e
	}
	return laid(m, f), api.OK
}

func isLike(s, pattern string) bool {
	return regexp.MustCompile(`\A(?:` + pattern + `)\z`).MatchString(s)
}

func replyIs(m api.Message, code string) (api.Message, api.Errno) {
	e := first(fault{!typeLike(m.MTI, "..[02]."), api.ErrMTI}, fault{!whole(m), api.ErrMessage}, fault{!isLike(code, "[A-Z0-9]{2}"), api.ErrValue})
	if e != api.OK {
		return api.Message{}, e
	}
	r := those(m, true, 2, 3, 4, 7, 11, 12, 13, 22, 25, 32, 37, 41, 42, 49, 66, 70, 90)
	r.MTI = m.MTI[:2] + map[byte]string{'0': "10", '2': "30"}[m.MTI[2]]
	return laid(r, field(39, code)), api.OK
}

// badDigits tells whether a message has a field that is not 1 to so many digits.
func badDigits(m api.Message, number, most int) bool {
	v, has := valueOf(m, number)
	return has && !isLike(v, "[0-9]{1,"+strconv.Itoa(most)+"}")
}

func originalIs(m api.Message) (string, api.Errno) {
	n, has11 := valueOf(m, 11)
	stamp, has7 := valueOf(m, 7)
	by, _ := valueOf(m, 32)
	e := first(fault{!isType(m.MTI), api.ErrMTI}, fault{!whole(m), api.ErrMessage}, fault{!has11 || !has7, api.ErrMust},
		fault{badDigits(m, 11, 6) || badDigits(m, 7, 10) || badDigits(m, 32, 11), api.ErrValue})
	if e != api.OK {
		return "", e
	}
	numbers := make([]int, 3)
	for i, s := range []string{n, stamp, by} {
		numbers[i], _ = strconv.Atoi(s)
	}
	return fmt.Sprintf("%s%06d%010d%011d%011d", m.MTI, numbers[0], numbers[1], numbers[2], 0), api.OK
}

func reversalIs(m api.Message, number, stamp string) (api.Message, api.Errno) {
	o, e := originalIs(m)
	e = first(fault{!typeLike(m.MTI, ".[12][02]."), api.ErrMTI}, fault{e != api.OK, e}, fault{!isLike(number, "[0-9]{6}") || !isLike(stamp, "[0-9]{10}"), api.ErrValue})
	if e != api.OK {
		return api.Message{}, e
	}
	r := those(m, true, 2, 3, 4, 12, 13, 32, 37, 38, 41, 42, 49)
	r.MTI = m.MTI[:1] + "420"
	return laid(r, field(7, stamp), field(11, number), field(90, o)), api.OK
}

// written is a value as it stands in a line.
func written(s string) string {
	var b strings.Builder
	for i := range len(s) {
		if c := s[i]; c < 32 || c > 126 || c == 92 {
			fmt.Fprintf(&b, "\\%02X", c)
		} else {
			b.WriteByte(c)
		}
	}
	return b.String()
}

// knot is a field, or a node.
type knot struct {
	number int
	value  string
	kids   []*knot
}

func (k *knot) print(b *strings.Builder, deep int) {
	if len(k.kids) == 0 {
		fmt.Fprintf(b, "%s%d=%s\n", strings.Repeat(".", deep), k.number, written(k.value))
		return
	}
	fmt.Fprintf(b, "%s%d:\n", strings.Repeat(".", deep), k.number)
	for _, kid := range k.kids {
		kid.print(b, deep+1)
	}
}

func (k *knot) nodes() []api.Node {
	var l []api.Node
	for _, kid := range k.kids {
		l = append(l, api.Node{Tag: kid.number, Value: kid.value, Kids: kid.nodes()})
	}
	return l
}

func knotsOf(l []api.Node) []*knot {
	var all []*knot
	for _, n := range l {
		all = append(all, &knot{n.Tag, n.Value, knotsOf(n.Kids)})
	}
	return all
}

func printIs(m api.Message) (string, api.Errno) {
	if e := first(fault{!isType(m.MTI), api.ErrMTI}, fault{!whole(m), api.ErrMessage}); e != api.OK {
		return "", e
	}
	var b strings.Builder
	b.WriteString(m.MTI + "\n")
	for _, f := range m.Fields {
		(&knot{f.Number, f.Value, knotsOf(f.Kids)}).print(&b, 0)
	}
	return b.String(), api.OK
}

var (
	lineForm = regexp.MustCompile(`(?s)\A(\.*)([+-]?[0-9]+)([:=])(.*)\z`)
	byteForm = regexp.MustCompile(`\\[0-9A-F]{2}`)
)

// seems is what a text seems to say, however badly it says it.
func seems(s string) (api.Message, bool) {
	lines := strings.Split(s, "\n")
	m := api.Message{MTI: lines[0]}
	path := []*knot{{}}
	for _, text := range lines[1 : len(lines)-1] {
		p := lineForm.FindStringSubmatch(text)
		if p == nil || len(p[1]) >= len(path) {
			return api.Message{}, false
		}
		n, err := strconv.Atoi(p[2])
		if err != nil {
			return api.Message{}, false
		}
		k := &knot{number: n, value: byteForm.ReplaceAllStringFunc(p[4], func(s string) string {
			c, _ := strconv.ParseUint(s[1:], 16, 8)
			return string([]byte{byte(c)})
		})}
		path = path[:len(p[1])+1]
		above := path[len(path)-1]
		above.kids = append(above.kids, k)
		path = append(path, k)
	}
	for _, k := range path[0].kids {
		m.Fields = append(m.Fields, api.Field{Number: k.number, Value: k.value, Kids: k.nodes()})
	}
	return m, true
}

// isPrinted tells whether a text is what is printed of a message.
func isPrinted(s string) bool {
	if !strings.HasSuffix(s, "\n") {
		return false
	}
	m, ok := seems(s)
	if !ok {
		return false
	}
	p, e := printIs(m)
	return e == api.OK && p == s
}

// mayGoOn tells whether lines are the beginning of what is printed of some message: as they are, or with a Kid behind the last one.
func mayGoOn(lines []string) bool {
	s := strings.Join(lines, "")
	last := lines[len(lines)-1]
	dots := strings.Repeat(".", len(last)-len(strings.TrimLeft(last, ".")))
	return isPrinted(s) || isPrinted(s+dots+".0=\n")
}

func readIs(s string) (api.Message, api.Errno, int) {
	lines := strings.SplitAfter(s, "\n")
	for k, text := range lines {
		if k == len(lines)-1 && k > 0 && text == "" {
			break
		}
		if !strings.HasSuffix(text, "\n") || !mayGoOn(lines[:k+1]) {
			return api.Message{}, api.ErrLine, k + 1
		}
	}
	if !isPrinted(s) {
		return api.Message{}, api.ErrLine, len(lines)
	}
	m, _ := seems(s)
	return m, api.OK, 0
}
