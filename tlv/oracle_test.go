package tlv_test

import (
	"encoding/hex"
	"fmt"
	"math"
	"math/rand"
	"regexp"
	"strings"
	"sync"

	"turnstile/api"
)

// A plain second reading of the chapter is held against the package: tags and lengths are looked up among all that there are, nodes are read as rows, without going into one another.

const (
	most     = 9999
	mostNest = 8
	mostMany = 500
)

// tagTable is all tags: by their bytes, by their numbers, and what some tag begins with.
type tagTable struct {
	numbers map[string]int
	texts   map[int]string
	begins  map[string]bool
}

var tags = sync.OnceValue(func() tagTable {
	t := tagTable{map[string]int{}, map[int]string{}, map[string]bool{}}
	put := func(l ...byte) {
		n := 0
		for _, c := range l {
			n = n*256 + int(c)
		}
		t.numbers[string(l)], t.texts[n] = n, string(l)
	}
	for first := 1; first <= 255; first++ {
		if first%32 != 31 {
			put(byte(first))
			continue
		}
		t.begins[string([]byte{byte(first)})] = true
		for second := 0; second <= 127; second++ {
			put(byte(first), byte(second))
		}
		for second := 129; second <= 255; second++ {
			t.begins[string([]byte{byte(first), byte(second)})] = true
			for third := 0; third <= 127; third++ {
				put(byte(first), byte(second), byte(third))
			}
		}
	}
	return t
})

func isTag(n int) bool { return tags().texts[n] != "" }

func isMarked(n int) bool { return isTag(n) && tags().texts[n][0]/32%2 == 1 }

// lengthTexts is how each length is written.
var lengthTexts = sync.OnceValue(func() []string {
	var l []string
	for n := range most + 1 {
		switch {
		case n < 128:
			l = append(l, string([]byte{byte(n)}))
		case n < 256:
			l = append(l, string([]byte{129, byte(n)}))
		default:
			l = append(l, string([]byte{130, byte(n / 256), byte(n % 256)}))
		}
	}
	return l
})

var lengths = sync.OnceValue(func() map[string]int {
	m := map[string]int{}
	for n, text := range lengthTexts() {
		m[text] = n
	}
	return m
})

// row is a node without what stands in it, and how deep it stands.
type row struct {
	deep int
	node api.Node
}

func rows(l []api.Node) []row {
	var all []row
	var put func(l []api.Node, deep int)
	put = func(l []api.Node, deep int) {
		for _, n := range l {
			all = append(all, row{deep, n})
			put(n.Kids, deep+1)
		}
	}
	put(l, 1)
	return all
}

// nested is the nodes of rows.
func nested(all []row, deep int) []api.Node {
	var l []api.Node
	for i := 0; i < len(all); {
		j := i + 1
		for j < len(all) && all[j].deep > deep {
			j++
		}
		n := all[i].node
		n.Kids = nested(all[i+1:j], deep+1)
		l = append(l, n)
		i = j
	}
	return l
}

func wantTag(b string, at, end int) (string, api.Errno, int) {
	for size := 1; ; size++ {
		if at+size > end {
			return "", api.ErrShort, end
		}
		text := b[at : at+size]
		if _, ok := tags().numbers[text]; ok {
			return text, api.OK, 0
		}
		if !tags().begins[text] {
			return "", api.ErrTag, at + size - 1
		}
	}
}

func wantLength(b string, at, end int) (string, api.Errno, int) {
	if at == end {
		return "", api.ErrShort, end
	}
	size := 1
	switch c := b[at]; {
	case c == 129:
		size = 2
	case c == 130:
		size = 3
	case c >= 128:
		return "", api.ErrLength, at
	}
	if at+size > end {
		return "", api.ErrShort, end
	}
	if _, ok := lengths()[b[at:at+size]]; !ok {
		return "", api.ErrLength, at
	}
	return b[at : at+size], api.OK, 0
}

func wantParse(b string) ([]api.Node, api.Errno, int) {
	if len(b) > most {
		return nil, api.ErrLength, 0
	}
	var all []row
	ends := []int{len(b)} // of all contents that are open
	for at := 0; ; {
		for len(ends) > 0 && ends[len(ends)-1] == at {
			ends = ends[:len(ends)-1]
		}
		if len(ends) == 0 {
			return nested(all, 1), api.OK, 0
		}
		end := ends[len(ends)-1]
		switch {
		case len(all) == mostMany:
			return nil, api.ErrMany, at
		case len(ends) > mostNest:
			return nil, api.ErrDeep, at
		}
		tag, e, place := wantTag(b, at, end)
		if e != api.OK {
			return nil, e, place
		}
		length, e, place := wantLength(b, at+len(tag), end)
		if e != api.OK {
			return nil, e, place
		}
		at += len(tag) + len(length)
		size := lengths()[length]
		if at+size > end {
			return nil, api.ErrShort, end
		}
		n := row{len(ends), api.Node{Tag: tags().numbers[tag]}}
		if isMarked(n.node.Tag) {
			ends = append(ends, at+size)
		} else {
			n.node.Value = b[at : at+size]
			at += size
		}
		all = append(all, n)
	}
}

func wantBuild(l []api.Node) (string, api.Errno) {
	for i, r := range rows(l) {
		n := r.node
		switch {
		case i >= mostMany:
			return "", api.ErrMany
		case r.deep > mostNest:
			return "", api.ErrDeep
		case !isTag(n.Tag), isMarked(n.Tag) && len(n.Value) > 0, !isMarked(n.Tag) && len(n.Kids) > 0:
			return "", api.ErrTag
		}
	}
	s, ok := written(l)
	if !ok || len(s) > most {
		return "", api.ErrLength
	}
	return s, api.OK
}

// written is from the inside out; false: some content is more than there may be in all.
func written(l []api.Node) (string, bool) {
	all := ""
	for _, n := range l {
		content, ok := written(n.Kids)
		content += n.Value
		if !ok || len(content) > most {
			return "", false
		}
		all += tags().texts[n.Tag] + lengthTexts()[len(content)] + content
	}
	return all, true
}

var (
	aPair  = regexp.MustCompile(`\A[0-9]{2}`)
	unseen = regexp.MustCompile(`[^\x20-\x7E]`)
)

// wantPair is the place of the first byte that is none of two digits, or -1, and whether it is missing.
func wantPair(b string, at int) (place int, missing bool) {
	for i := at; i < at+2; i++ {
		if i == len(b) {
			return i, true
		}
		if !strings.Contains("0123456789", b[i:i+1]) {
			return i, false
		}
	}
	return -1, false
}

func wantParseSub(b string) ([]api.Node, api.Errno, int) {
	if len(b) > most {
		return nil, api.ErrLength, 0
	}
	var l []api.Node
	for at := 0; at < len(b); {
		if len(l) == mostMany {
			return nil, api.ErrMany, at
		}
		var numbers [2]int
		for i, e := range []api.Errno{api.ErrTag, api.ErrLength} {
			place, missing := wantPair(b, at)
			switch {
			case missing:
				return nil, api.ErrShort, len(b)
			case place >= 0:
				return nil, e, place
			}
			fmt.Sscanf(aPair.FindString(b[at:]), "%d", &numbers[i])
			at += 2
		}
		if len(b)-at < numbers[1] {
			return nil, api.ErrShort, len(b)
		}
		value := b[at : at+numbers[1]]
		if place := unseenAt(value); place >= 0 {
			return nil, api.ErrChar, at + place
		}
		at += numbers[1]
		l = append(l, api.Node{Tag: numbers[0], Value: value})
	}
	return l, api.OK, 0
}

// unseenAt is where the first byte stands that is not 32 to 126; -1: there is none.
func unseenAt(s string) int {
	if at := unseen.FindStringIndex(s); at != nil {
		return at[0]
	}
	return -1
}

func wantBuildSub(l []api.Node) (string, api.Errno) {
	all := ""
	for i, n := range l {
		switch {
		case i >= mostMany:
			return "", api.ErrMany
		case n.Tag < 0, n.Tag > 99, len(n.Kids) > 0:
			return "", api.ErrTag
		case len(n.Value) > 99:
			return "", api.ErrLength
		case unseenAt(n.Value) >= 0:
			return "", api.ErrChar
		}
		all += fmt.Sprintf("%02d%02d%s", n.Tag, len(n.Value), n.Value)
	}
	if len(all) > most {
		return "", api.ErrLength
	}
	return all, api.OK
}

func wantFind(l []api.Node, path []int) (api.Node, bool) {
	if len(path) == 0 {
		return api.Node{}, false
	}
	for _, n := range l {
		if n.Tag == path[0] && len(path) == 1 {
			return n, true
		}
		if n.Tag == path[0] {
			return wantFind(n.Kids, path[1:])
		}
	}
	return api.Node{}, false
}

func wantSet(l []api.Node, value string, path []int) ([]api.Node, api.Errno) {
	n, ok := wantFind(l, path)
	if !ok || len(n.Kids) > 0 || isMarked(n.Tag) {
		return nil, api.ErrPath
	}
	var set []api.Node
	open := true
	for _, n := range l {
		if open && n.Tag == path[0] {
			open = false
			if len(path) == 1 {
				n.Value = value
			} else {
				n.Kids, _ = wantSet(n.Kids, value, path[1:])
			}
		}
		set = append(set, n)
	}
	return set, api.OK
}

func wantPrint(l []api.Node) string {
	var b strings.Builder
	for _, r := range rows(l) {
		tag := strings.ToUpper(hex.EncodeToString([]byte(tags().texts[r.node.Tag])))
		if tag == "" {
			tag = "?"
		}
		line := fmt.Sprintf("%*s%s %X", 2*(r.deep-1), "", tag, r.node.Value)
		b.WriteString(strings.TrimRight(line, " ") + "\n")
	}
	return b.String()
}

// same tells whether two lists are one, empty or nil.
func same(a, b []api.Node) bool {
	if len(a) != len(b) {
		return false
	}
	for i := range a {
		if !sameNode(a[i], b[i]) {
			return false
		}
	}
	return true
}

func sameNode(a, b api.Node) bool {
	return a.Tag == b.Tag && a.Value == b.Value && same(a.Kids, b.Kids)
}

// Tags to take from: plain and marked ones, of one byte, of two and of three, lowest and highest.
var (
	plainTags  = []int{1, 30, 64, 90, 94, 128, 158, 192, 222, 0x1F00, 0x5F24, 0x9F02, 0xDF7F, 0x1F8100, 0x5F8101, 0x9FFF7F, 0xDF8101}
	markedTags = []int{32, 62, 96, 112, 126, 160, 190, 224, 254, 0x3F00, 0x7F21, 0xBF0C, 0xFF7F, 0x3F8100, 0x7F8101, 0xBFFF7F, 0xFF8101}
	noTags     = []int{0, 31, 63, 95, 127, 159, 191, 223, 255, 256, 0x0001, 0x1E00, 0x1F80, 0x9F80, 0x9F81, 0x9FFF, 0xFFFF, 0x10000, 0x1F0000, 0x1F7F00, 0x1F8000, 0x1F8180, 0x1E8100, 0xFFFFFF, 1 << 24, 1<<24 + 90, 0x1F810100, 1<<32 + 90, -1, -90, -166, -256, -97, math.MinInt, math.MaxInt}
)

func oneOf[T any](r *rand.Rand, l []T) T { return l[r.Intn(len(l))] }

func randomText(r *rand.Rand, size int) string {
	b := make([]byte, size)
	r.Read(b)
	return string(b)
}

// rightNodes is a list that Build takes, of some nodes, for the most part.
func rightNodes(r *rand.Rand, deep int) []api.Node {
	var l []api.Node
	for range r.Intn(4) {
		if deep < mostNest && r.Intn(3) > 0 {
			l = append(l, api.Node{Tag: oneOf(r, markedTags), Kids: rightNodes(r, deep+1)})
			continue
		}
		size := r.Intn(4)
		if r.Intn(40) == 0 {
			size = oneOf(r, []int{126, 127, 128, 129, 254, 255, 256, 257, 300})
		}
		l = append(l, api.Node{Tag: oneOf(r, plainTags), Value: randomText(r, size)})
	}
	return l
}

// anyNodes is a list of anything.
func anyNodes(r *rand.Rand, deep int) []api.Node {
	var l []api.Node
	for range r.Intn(4) {
		n := api.Node{Tag: oneOf(r, [][]int{plainTags, markedTags, noTags, {1, 2, 3, 112}}[r.Intn(4)]), Value: randomText(r, max(0, r.Intn(6)-3))}
		if r.Intn(2) == 0 && deep < 12 {
			n.Kids = anyNodes(r, deep+1)
		}
		l = append(l, n)
	}
	return l
}
