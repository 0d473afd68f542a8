package grammar_test

import (
	"fmt"
	"regexp"
	"slices"
	"strings"

	"turnstile/api"
	"turnstile/tlv"
)

// A plain second reading of the chapter is held against the package: types are made by chapter 11's table, characters are told by patterns, all faults are gathered and the first is taken.

// allTypes is what there is of versions, classes, functions and origins.
func allTypes() []string {
	functions := map[string]string{"1": "0123", "2": "0123", "4": "23", "5": "01", "8": "01"}
	var l []string
	for _, version := range []string{"0", "1"} {
		for class, some := range functions {
			for _, function := range strings.Split(some, "") {
				l = append(l, version+class+function+"0")
				if function == "0" || function == "2" {
					l = append(l, version+class+function+"1")
				}
			}
		}
	}
	slices.Sort(l)
	return l
}

var isOfTypes = regexp.MustCompile(`\A(` + strings.Join(allTypes(), "|") + `)\z`)

// class is a line of the chapter's table.
type class struct {
	encodings []int
	content   *regexp.Regexp // nil: it has Kids
}

func classes() map[int]class {
	text := func(pattern string) *regexp.Regexp { return regexp.MustCompile(`(?s)\A` + pattern + `\z`) }
	return map[int]class{
		1: {[]int{1, 2, 4}, text(`[0-9]+`)},
		2: {[]int{1, 4}, text(`[A-Za-z ]+`)},
		3: {[]int{1, 4}, text(`[A-Za-z0-9 ]+`)},
		4: {[]int{1, 4}, text(`[\x20-\x7E]+`)},
		5: {[]int{5}, text(`.+`)},
		6: {[]int{1, 3, 4}, text(`[0-9=]+`)},
		7: {[]int{1, 4}, text(`[CD][0-9]+`)},
		8: {[]int{5}, nil},
		9: {[]int{1}, nil},
	}
}

var table = classes()

// fault is an error, where it is, and whether it is there.
type fault struct {
	e     api.Errno
	at    int
	there bool
}

func firstFault(l []fault) (api.Errno, int) {
	for _, f := range l {
		if f.there {
			return f.e, f.at
		}
	}
	return api.OK, 0
}

var rightName = regexp.MustCompile(`\A[a-z0-9-]{1,16}\z`)

func notOneOf(n int, l ...int) bool { return !slices.Contains(l, n) }

func wantRight(d api.Dialect) (api.Errno, int) {
	l := []fault{
		{api.ErrName, 0, !rightName.MatchString(d.Name)},
		{api.ErrVersion, 0, notOneOf(d.Version, 0, 1) || notOneOf(d.MTIEnc, 1, 2, 4) || notOneOf(d.MapEnc, 5, 1, 4)},
		{api.ErrMany, 0, len(d.Fields) > 126 || len(d.Rules) > 64},
	}
	if e, at := firstFault(l); e != api.OK {
		return e, at
	}
	for i, s := range d.Fields {
		l = append(l, specFaults(d, i, s)...)
	}
	for i, r := range d.Rules {
		l = append(l, fault{api.ErrRule, i, ruleFault(d, i, r)})
	}
	l = append(l, fault{api.ErrMAC, 0, tagFault(d)})
	return firstFault(l)
}

func specFaults(d api.Dialect, i int, s api.FieldSpec) []fault {
	ahead := 0
	if i > 0 {
		ahead = d.Fields[i-1].Number
	}
	return []fault{
		{api.ErrField, i, s.Number < 2 || s.Number == 65 || s.Number > 128 || i > 0 && s.Number <= ahead},
		{api.ErrClass, i, !slices.Contains(table[s.Class].encodings, s.Enc)},
		{api.ErrSize, i, s.Digits < 0 || s.Digits > 4},
		{api.ErrSize, i, s.Digits == 0 && s.LenEnc != 0},
		{api.ErrSize, i, s.Digits != 0 && notOneOf(s.LenEnc, 1, 2, 4, 5)},
		{api.ErrSize, i, s.Size < 1 || s.Size > 9999},
		{api.ErrSize, i, s.Digits != 0 && len(fmt.Sprint(s.Size)) > s.Digits},
		{api.ErrSize, i, (s.Class == 8 || s.Class == 9) && s.Digits == 0},
		{api.ErrSize, i, s.Class == 7 && s.Size == 1},
	}
}

// rise tells whether numbers are the same when they are sorted and each is taken once.
func rise(l []int) bool { return slices.Equal(l, slices.Compact(slices.Sorted(slices.Values(l)))) }

func ruleFault(d api.Dialect, i int, r api.Rule) bool {
	if !isOfTypes.MatchString(r.MTI) || r.MTI[:1] != fmt.Sprint(d.Version) {
		return true
	}
	if i > 0 && strings.Compare(d.Rules[i-1].MTI, r.MTI) >= 0 {
		return true
	}
	known, times := map[int]bool{}, map[int]int{}
	for _, s := range d.Fields {
		known[s.Number] = true
	}
	for _, n := range slices.Concat(r.Must, r.May) {
		times[n]++
		if !known[n] || times[n] > 1 {
			return true
		}
	}
	return !rise(r.Must) || !rise(r.May)
}

func tagFault(d api.Dialect) bool {
	if d.MAC == 0 {
		return false
	}
	there := false
	for _, s := range d.Fields {
		if s.Number > d.MAC {
			return true
		}
		there = there || s.Number == d.MAC && s.Class == 5 && s.Digits == 0 && s.Size == 8
	}
	return !there || d.MAC != 64 && d.MAC != 128
}

func wantSpec(d api.Dialect, n int) (api.FieldSpec, bool) {
	i := slices.IndexFunc(d.Fields, func(s api.FieldSpec) bool { return s.Number == n })
	if i < 0 {
		return api.FieldSpec{}, false
	}
	return d.Fields[i], true
}

func wantRule(d api.Dialect, mti string) (api.Rule, bool) {
	i := slices.IndexFunc(d.Rules, func(r api.Rule) bool { return r.MTI == mti })
	if i < 0 {
		return api.Rule{}, false
	}
	return d.Rules[i], true
}

func wantValue(s api.FieldSpec, f api.Field) bool {
	c, ok := table[s.Class]
	if !ok {
		return false
	}
	content := f.Value
	if c.content != nil && (len(f.Kids) > 0 || !c.content.MatchString(content)) {
		return false
	}
	if c.content == nil {
		if f.Value != "" || len(f.Kids) == 0 {
			return false
		}
		var e api.Errno
		if s.Class == 8 {
			content, e = tlv.Build(f.Kids)
		} else {
			content, e = tlv.BuildSub(f.Kids)
		}
		if e != api.OK {
			return false
		}
	}
	return len(content) == s.Size || s.Digits != 0 && len(content) < s.Size
}

func wantFits(d api.Dialect, m api.Message) (api.Errno, int) {
	r, ok := wantRule(d, m.MTI)
	if !ok {
		return api.ErrMTI, 0
	}
	has := map[int]api.Field{}
	numbers := slices.Clone(r.Must)
	for i, f := range m.Fields {
		if i > 0 && f.Number <= m.Fields[i-1].Number {
			return api.ErrField, f.Number
		}
		has[f.Number] = f
		numbers = append(numbers, f.Number)
	}
	slices.Sort(numbers)
	var l []fault
	for _, n := range numbers {
		f, there := has[n]
		s, known := wantSpec(d, n)
		named := slices.Contains(append(slices.Clone(r.Must), r.May...), n)
		l = append(l, fault{api.ErrField, n, there && !known}, fault{api.ErrMay, n, there && !named}, fault{api.ErrValue, n, there && !wantValue(s, f)}, fault{api.ErrMust, n, !there})
	}
	return firstFault(l)
}

func wantCut(d api.Dialect, m api.Message) api.Message {
	cut := api.Message{MTI: m.MTI}
	if isOfTypes.MatchString(m.MTI) && (d.Version == 0 || d.Version == 1) {
		cut.MTI = fmt.Sprint(d.Version) + strings.TrimLeft(m.MTI[:1], "01") + m.MTI[1:]
	}
	r, ok := wantRule(d, cut.MTI)
	for _, f := range m.Fields {
		s, known := wantSpec(d, f.Number)
		if !ok || known && (slices.Contains(r.Must, f.Number) || slices.Contains(r.May, f.Number)) && wantValue(s, f) {
			cut.Fields = append(cut.Fields, f)
		}
	}
	return cut
}

// wantMost is of a right dialect with a rule of the type.
func wantMost(d api.Dialect, mti string) int {
	r, _ := wantRule(d, mti)
	all := map[int]int{1: 4, 2: 2, 4: 4}[d.MTIEnc]
	half := map[int]int{5: 8, 1: 16, 4: 16}[d.MapEnc]
	all += half
	wide := false
	for _, s := range d.Fields {
		if !slices.Contains(r.Must, s.Number) && !slices.Contains(r.May, s.Number) {
			continue
		}
		wide = wide || s.Number > 64
		switch s.LenEnc {
		case api.ASCII, api.EBCDIC:
			all += s.Digits
		case api.BCD, api.BINARY:
			all += (s.Digits + 1) / 2
		}
		switch s.Enc {
		case api.BCD, api.BCDR:
			all += (s.Size + 1) / 2
		default:
			all += s.Size
		}
	}
	if wide {
		all += half
	}
	return all
}

func sameNodes(a, b []api.Node) bool {
	return slices.EqualFunc(a, b, func(a, b api.Node) bool {
		return a.Tag == b.Tag && a.Value == b.Value && sameNodes(a.Kids, b.Kids)
	})
}

func sameMessage(a, b api.Message) bool {
	return a.MTI == b.MTI && slices.EqualFunc(a.Fields, b.Fields, func(a, b api.Field) bool {
		return a.Number == b.Number && a.Value == b.Value && sameNodes(a.Kids, b.Kids)
	})
}

func sameRule(a, b api.Rule) bool {
	return a.MTI == b.MTI && slices.Equal(a.Must, b.Must) && slices.Equal(a.May, b.May)
}
