package scan_test

import (
	"cmp"
	"fmt"
	"math/rand"
	"runtime"
	"slices"
	"strings"
	"sync"
	"testing"
	"unsafe"

	"turnstile/api"
	"turnstile/message"
	"turnstile/scan"
)

// What holds of all calls (P1 to P5).

func someDialects() []api.Dialect {
	l := []api.Dialect{example(), rich(), ofAllFields(api.ASCII), {Name: "x", MTIEnc: 1, MapEnc: 1}}
	r := rand.New(rand.NewSource(1315))
	for range 15 {
		l = append(l, rightDialect(r))
	}
	return l
}

func someTexts() []string {
	_, parts := full()
	l := []string{"", "0", "0200", short, track, strings.Join(parts, ""), strings.Repeat("0", 9999), strings.Repeat("0", 10000), strings.Repeat("\xFF", 100000), "\x18\x00" + strings.Repeat("\xFF", 9000), "0200" + strings.Repeat("F", 9000), "٠٢٠٠"}
	r := rand.New(rand.NewSource(1316))
	for range 10 {
		l = append(l, bentBytes(r, track), textOf(r, api.ClassB, r.Intn(60)))
	}
	return l
}

func someMessages() []api.Message {
	m, _ := full()
	long := strings.Repeat("1", 70000)
	deep := []api.Node{leaf(90, "x")}
	for range 1000 {
		deep = []api.Node{inner(112, deep...)}
	}
	l := []api.Message{{}, m, of("0200"), of("0200", field(3, "000000"), field(11, "000042"), field(35, "1")), of(long, field(2, long)), of("0200", field(3, long), field(11, long)), of("1100", field(3, "12345"), kids(48, deep...), kids(55, deep...)), of("0200", slices.Repeat([]api.Field{field(3, "000000")}, 3000)...)}
	r := rand.New(rand.NewSource(1317))
	for range 10 {
		l = append(l, bentMessage(r, m), bentMessage(r, bentMessage(r, m)))
	}
	return l
}

// answers is what all calls answer, as texts.
func answers(x *scan.Table) []string {
	var l []string
	s := x.New()
	for _, b := range someTexts() {
		m, defect := x.Parse(b)
		l = append(l, fmt.Sprintf("%#v %v %v %q %#v", m, defect, s.Scan(b), s.MTI(), s.Message()))
		for n := -1; n < 131; n++ {
			at, size := s.Span(n)
			f, ok := s.Field(n)
			l = append(l, fmt.Sprintf("%t %d %d %#v %t", s.Has(n), at, size, f, ok))
		}
		for _, m := range someMessages() {
			other, e, n := s.Patch(m.MTI, m.Fields, []int{firstNumber(m), 3, -1})
			l = append(l, fmt.Sprintf("%q %d %d", other, e, n))
		}
	}
	for _, m := range someMessages() {
		b, e, n := x.Build(m)
		l = append(l, fmt.Sprintf("%q %d %d", b, e, n))
	}
	messages, defects := x.Each(someTexts()...)
	return append(l, fmt.Sprintf("%#v %v", messages, defects))
}

// firstNumber is that of a message's first field; 0: it has none.
func firstNumber(m api.Message) int {
	if len(m.Fields) == 0 {
		return 0
	}
	return m.Fields[0].Number
}

// TestEveryCallAnswers: no call panics, and beside an error there is nothing.
func TestEveryCallAnswers(t *testing.T) {
	for _, d := range someDialects() {
		x := compiled(t, d)
		for _, b := range someTexts() {
			m, defect := x.table.Parse(b)
			if scanned := x.s.Scan(b); scanned != defect || defect.At < 0 || defect.At > len(b) {
				t.Errorf("P2: Parse tells %v, Scan %v", defect, scanned)
			}
			if defect.Code == api.OK && defect != (api.Defect{}) {
				t.Errorf("P2: Parse tells %v, which is no defect", defect)
			}
			if defect.Code != api.OK && (m.MTI != "" || m.Fields != nil) {
				t.Errorf("P2: beside %v stands %v", defect, m)
			}
			for _, m := range someMessages() {
				if b, e, n := x.s.Patch(m.MTI, m.Fields, nil); e != api.OK && b != "" || e == api.OK && n != 0 || e == api.ErrState && n != 0 {
					t.Errorf("P2: Patch = %.60x, %d, %d", b, e, n)
				}
			}
		}
		for _, m := range someMessages() {
			if b, e, n := x.table.Build(m); e != api.OK && b != "" || e == api.OK && n != 0 {
				t.Errorf("P2: Build = %.60x, %d, %d", b, e, n)
			}
		}
	}
	for _, d := range []api.Dialect{{}, {Name: "x", MTIEnc: 1, MapEnc: 1, Fields: make([]api.FieldSpec, 70000)}, {Name: "x", MTIEnc: 1, MapEnc: 1, Rules: make([]api.Rule, 70000)}} {
		if x, e, n := scan.Compile(d); x != nil || e == api.OK || n != 0 {
			t.Errorf("P2: Compile = %t, %d, %d", x != nil, e, n)
		}
	}
}

// span is memory that a list or a text has, spare room too.
type span struct{ from, to uintptr }

func listSpan[T any](l []T) span {
	var one T
	from := uintptr(unsafe.Pointer(unsafe.SliceData(l)))
	return span{from, from + uintptr(cap(l))*unsafe.Sizeof(one)}
}

func textSpan(s string) span {
	from := uintptr(unsafe.Pointer(unsafe.StringData(s)))
	return span{from, from + uintptr(len(s))}
}

// messageSpans are where a message's lists stand, and its texts of more than one byte (those of one may be the library's).
func messageSpans(m api.Message) []span {
	return append(fieldSpans(m.Fields...), textSpan(m.MTI), listSpan(m.Fields))
}

func fieldSpans(l ...api.Field) []span {
	var all []span
	for _, f := range l {
		if len(f.Value) > 1 {
			all = append(all, textSpan(f.Value))
		}
		all = append(all, nodeSpans(f.Kids)...)
	}
	return all
}

func nodeSpans(l []api.Node) []span {
	if cap(l) == 0 {
		return nil
	}
	all := []span{listSpan(l)}
	for _, n := range l {
		if len(n.Value) > 1 {
			all = append(all, textSpan(n.Value))
		}
		all = append(all, nodeSpans(n.Kids)...)
	}
	return all
}

// shared tells whether two of some spans have memory in common.
func shared(all ...[]span) bool {
	l := slices.Concat(all...)
	slices.SortFunc(l, func(a, b span) int { return cmp.Compare(a.from, b.from) })
	for i := 1; i < len(l); i++ {
		if l[i].from < l[i-1].to {
			return true
		}
	}
	return false
}

// kept is what was answered, so that its memory is nobody else's meanwhile.
type kept struct {
	all   []any
	spans []span
}

func (k *kept) text(s string) { k.all, k.spans = append(k.all, s), append(k.spans, textSpan(s)) }

func (k *kept) message(m api.Message) {
	k.all, k.spans = append(k.all, m), append(k.spans, messageSpans(m)...)
}

func (k *kept) field(f api.Field) {
	k.all, k.spans = append(k.all, f), append(k.spans, fieldSpans(f)...)
}

func (k *kept) lists(l []api.Message, defects []api.Defect) {
	k.all, k.spans = append(k.all, l, defects), append(k.spans, listSpan(l), listSpan(defects))
}

func TestAnswersAreNewMemory(t *testing.T) {
	m, parts := full()
	d, text := rich(), strings.Join(parts, "")
	x := compiled(t, d)
	var read, written kept
	read.text(text)
	written.text(text)
	written.message(m)
	for _, r := range d.Rules {
		read.text(r.MTI)
	}
	for range 2 {
		one, _ := x.table.Parse(text)
		read.message(one)
		l, defects := x.table.Each(text, text, text)
		read.lists(l, defects)
		for _, each := range l {
			read.message(each)
		}
		x.s.Scan(text)
		for range 2 {
			read.message(x.s.Message())
			read.text(x.s.MTI())
			for _, f := range m.Fields {
				field, _ := x.s.Field(f.Number)
				read.field(field)
			}
		}
		built, _, _ := x.table.Build(m)
		written.text(built)
		same, _, _ := x.s.Patch(m.MTI, nil, nil)
		written.text(same)
		other, _, _ := x.s.Patch(m.MTI, m.Fields[5:], nil)
		written.text(other)
	}
	if shared(read.spans) {
		t.Error("P3: what is read is memory that is another's")
	}
	if shared(written.spans) {
		t.Error("P3: what is written is memory that is another's")
	}
	runtime.KeepAlive(read)
	runtime.KeepAlive(written)
}

// roomy is a list with something in the room behind it.
func roomy[T any](l []T, behind T) []T {
	r := append(slices.Clone(l), behind, behind, behind)
	return r[:len(l)]
}

// behindLists is what stands in lists and in the room behind them.
func behindLists(d api.Dialect, m api.Message, gone []int, texts []string) string {
	s := fmt.Sprint(d.Fields[:cap(d.Fields)], d.Rules[:cap(d.Rules)], m.Fields[:cap(m.Fields)], gone[:cap(gone)], texts[:cap(texts)])
	for _, r := range d.Rules {
		s += fmt.Sprint(r.Must[:cap(r.Must)], r.May[:cap(r.May)])
	}
	for _, f := range m.Fields {
		s += fmt.Sprint(f.Kids[:cap(f.Kids)])
	}
	return s
}

// TestNothingIsWrittenInto: neither what is handed in nor what stands behind it.
func TestNothingIsWrittenInto(t *testing.T) {
	m, parts := full()
	d := rich()
	d.Fields = roomy(d.Fields, api.FieldSpec{Number: 7, Size: 7})
	d.Rules = roomy(d.Rules, api.Rule{MTI: "behind"})
	for i, r := range d.Rules {
		d.Rules[i].Must, d.Rules[i].May = roomy(r.Must, 77), roomy(r.May, 78)
	}
	m.Fields = roomy(m.Fields, field(7, "behind"))
	for i, f := range m.Fields {
		m.Fields[i].Kids = roomy(f.Kids, leaf(7, "behind"))
	}
	slices.Reverse(m.Fields)
	gone := roomy([]int{66, 2, 64, 2}, 79)
	texts := roomy([]string{strings.Join(parts, ""), "", short}, "behind")
	before := behindLists(d, m, gone, texts)
	x := compiled(t, d)
	for _, b := range texts {
		x.table.Parse(b)
		x.s.Scan(b)
		x.s.Patch("1100", m.Fields, gone)
		x.s.Patch("1100", nil, gone)
	}
	x.table.Build(m)
	l, _ := x.table.Each(texts...)
	fields := l[0].Fields[:cap(l[0].Fields)]
	for i := range fields {
		fields[i] = field(-99, "scribbled")
	}
	if after := behindLists(d, m, gone, texts); after != before {
		t.Errorf("P3: what was given became %.300s", after)
	}
}

// TestSameAgain: the same arguments give the same answers, whatever was asked between, and by whom: scanners of one table may be used side by side.
func TestSameAgain(t *testing.T) {
	for _, d := range someDialects() {
		x := compiled(t, d)
		first := answers(x.table)
		var group sync.WaitGroup
		for range 4 {
			group.Go(func() {
				if !slices.Equal(first, answers(x.table)) {
					t.Error("P4: the same calls answer another thing once more")
				}
			})
		}
		group.Wait()
		if !slices.Equal(first, answers(compiled(t, d).table)) {
			t.Error("P4: another table of the dialect answers another thing")
		}
	}
}

// TestLaterChangesDoNotShow: what was answered, and what a scanner has, stays, whatever becomes of what was handed in.
func TestLaterChangesDoNotShow(t *testing.T) {
	m, parts := full()
	x := compiled(t, rich())
	text := []byte(strings.Join(parts, ""))
	handed := unsafe.String(&text[0], len(text))
	read, _ := x.table.Parse(handed)
	l, _ := x.table.Each(handed)
	x.s.Scan(handed)
	b, _, _ := x.table.Build(m)
	list := slices.Clone(m.Fields)
	other, _, _ := x.s.Patch("1100", list, nil)
	clear(text)
	clear(m.Fields)
	clear(list)
	want, _ := full()
	if !message.Same(read, want) || !message.Same(l[0], want) || b != strings.Join(parts, "") || other != b {
		t.Errorf("P3: what was answered became %v, %v, %x, %x", read, l, b, other)
	}
	has(t, x.s, wantRead(x.d, b))
	patchIs(t, x, "1100", nil, nil, b, api.OK, 0)
}

// TestNothingOfEitherKind: lists of nothing, nil or empty, count alike.
func TestNothingOfEitherKind(t *testing.T) {
	d := example()
	d.Rules = append(d.Rules, api.Rule{MTI: "0800", Must: []int{}, May: []int{}}, api.Rule{MTI: "0810"})
	x := compiled(t, d)
	for _, mti := range []string{"0800", "0810"} {
		b := mti + "0000000000000000"
		writes(t, x, api.Message{MTI: mti}, b, api.OK, 0)
		writes(t, x, api.Message{MTI: mti, Fields: []api.Field{}}, b, api.OK, 0)
		tellsOf(t, x, b, told{m: of(mti)})
		patchIs(t, x, mti, []api.Field{}, []int{}, b, api.OK, 0)
		patchIs(t, x, mti, nil, nil, b, api.OK, 0)
	}
	m := of("0200", field(3, "000000"), field(11, "000042"))
	m.Fields[0].Kids = []api.Node{}
	writes(t, x, m, short, api.OK, 0)
	s := api.FieldSpec{Number: 55, Class: api.ClassT, Enc: api.BINARY, Digits: 2, LenEnc: api.BCD, Size: 9}
	for _, l := range [][]api.Node{nil, {}} {
		writes(t, compiled(t, one(s)), of("0200", kids(55, inner(112, l...))), head(s)+"\x02\x70\x00", api.OK, 0)
	}
	empty := api.Dialect{Name: "x", MTIEnc: 1, MapEnc: 1, Fields: []api.FieldSpec{}, Rules: []api.Rule{}}
	tellsOf(t, compiled(t, empty), short, wrong(api.DefMTI, 0, 0))
	writes(t, compiled(t, empty), m, "", api.ErrMTI, 0)
}
