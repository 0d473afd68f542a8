package journal_test

import (
	"cmp"
	"fmt"
	"math/rand"
	"reflect"
	"runtime"
	"slices"
	"strings"
	"sync"
	"testing"
	"unsafe"

	"turnstile/api"
	"turnstile/journal"
)

// What holds of all calls (P1 to P5).

// answers is what many calls answer, as texts.
func answers() []string {
	var l []string
	add := func(args ...any) { l = append(l, fmt.Sprintf("%q", args)) }
	r := rand.New(rand.NewSource(2308))
	for range 60 {
		j := journal.New()
		for range r.Intn(6) {
			add(j.Append(someEntry(r)))
		}
		b := j.Bytes()
		if r.Intn(2) == 0 {
			b = bent(r, b)
		}
		x, n, err := journal.Open(b)
		add(b, n, err, x.Len(), x.Bytes(), journal.Sum(b))
		add(x.Append(someEntry(r)))
		for n, e := range x.All() {
			add(n, fmt.Sprint(e))
		}
	}
	return l
}

// TestSameAgain: every call answers, and the same calls answer the same, whatever was asked between, and by whom.
func TestSameAgain(t *testing.T) {
	first := answers()
	var group sync.WaitGroup
	for range 4 {
		group.Go(func() {
			if !slices.Equal(first, answers()) {
				t.Error("P4: the same calls answer another thing once more")
			}
		})
	}
	group.Wait()
}

// TestJournalsAreTheirOwn: what is done with one does not show in another.
func TestJournalsAreTheirOwn(t *testing.T) {
	r := rand.New(rand.NewSource(2309))
	all, lists := make([]*journal.Journal, 12), make([][]journal.Entry, 12)
	for i := range all {
		all[i] = journal.New()
	}
	for range 600 {
		i := r.Intn(len(all))
		e := someEntry(r)
		appends(t, all[i], e)
		lists[i] = append(lists[i], e)
		if r.Intn(20) == 0 { // one goes on from where another one is, and both of them by themselves
			k := r.Intn(len(all))
			all[k] = opens(t, all[i].Bytes(), len(all[i].Bytes()), lists[i])
			lists[k] = slices.Clone(lists[i])
		}
	}
	for i, j := range all {
		stands(t, j, lists[i])
	}
}

// TestAskingChangesNothing: nor does what is refused.
func TestAskingChangesNothing(t *testing.T) {
	long := event(strings.Repeat("x", mostBody))
	for _, j := range both(t, several()...) {
		for range 3 {
			isFault(t, "J2", j.Append(long), 0, api.ErrArg)
			for range j.All() {
				break
			}
			stands(t, j, several())
		}
	}
}

// TestNothingMoreIsExported: the chapter's calls and parts, and no others.
func TestNothingMoreIsExported(t *testing.T) {
	for of, want := range map[reflect.Type][]string{
		reflect.TypeFor[*journal.Journal](): {"All", "Append", "Bytes", "Len"},
		reflect.TypeFor[*journal.Fault]():   {"Error", "Unwrap"},
		reflect.TypeFor[*journal.Entry]():   nil,
	} {
		var names []string
		for m := range of.Methods() {
			names = append(names, m.Name)
		}
		if !slices.Equal(names, want) {
			t.Errorf("23: the calls of %v are %q; must be %q", of, names, want)
		}
	}
	for f := range reflect.TypeFor[journal.Journal]().Fields() {
		if f.IsExported() {
			t.Errorf("23: the journal's field %s is exported", f.Name)
		}
	}
}

func scribble(l []api.Output) {
	l = l[:cap(l)]
	for i := range l {
		l[i] = api.Output{Kind: -99, Link: -99, Code: -99, At: -99, Bytes: "scribbled"}
	}
}

// roomy is an entry of memory of its own, with something behind its list in its array; and all of that as a text.
func roomy(e journal.Entry) (journal.Entry, func() string) {
	l := make([]api.Output, 0, len(e.Outputs)+3)
	l = append(append(l, e.Outputs...), api.Output{Kind: 7, Bytes: "behind"}, api.Output{At: 8})[:len(e.Outputs)]
	e.Outputs = l
	return e, func() string { return fmt.Sprintf("%+v", l[:cap(l)]) }
}

// TestWritingShowsNowhere: into what was handed in, and into what was told, spare room too; and nothing that was handed in is written into.
func TestWritingShowsNowhere(t *testing.T) {
	r := rand.New(rand.NewSource(2310))
	for range 100 {
		l := someEntries(r, 10)
		j := journal.New()
		for _, e := range l {
			given, text := roomy(e)
			before := text()
			appends(t, j, given)
			if text() != before {
				t.Fatalf("P3: what was appended became %s; it was %s", text(), before)
			}
			scribble(given.Outputs)
		}
		for _, j := range []*journal.Journal{j, opens(t, j.Bytes(), len(j.Bytes()), l)} {
			i := 0
			var kept []journal.Entry
			for _, e := range j.All() {
				if !sameEntry(e, l[i]) {
					t.Fatalf("P3: behind one that was written into All tells %v; must be %v", e, l[i])
				}
				i++
				kept = append(kept, e)
				for _, e := range kept {
					scribble(e.Outputs)
				}
			}
			stands(t, j, l)
		}
	}
}

// TestTextsAreNotKept: what becomes later of the bytes of texts that were handed in does not show.
func TestTextsAreNotKept(t *testing.T) {
	bytes := []byte("an event, an output, and another one")
	text := func(from, to int) string { return unsafe.String(&bytes[from], to-from) }
	of := func() journal.Entry {
		return journal.Entry{Event: api.Event{Bytes: text(0, 8)}, Outputs: []api.Output{{Bytes: text(10, 19)}, {Link: 1, Bytes: text(21, 36)}}}
	}
	want := []journal.Entry{{Event: api.Event{Bytes: "an event"}, Outputs: []api.Output{{Bytes: "an output"}, {Link: 1, Bytes: "and another one"}}}}
	j := made(t, of())
	clear(bytes)
	stands(t, j, want)
	bytes = []byte(j.Bytes())
	x, n, err := journal.Open(text(0, len(bytes)))
	if n != len(bytes) || err != nil {
		t.Fatalf("J3: Open = %d, %v", n, err)
	}
	clear(bytes)
	stands(t, x, want)
}

// span is memory that a list or a text has, spare room too.
type span struct{ from, to uintptr }

// kept is what was answered, so that its memory is nobody else's meanwhile.
type kept struct {
	all   []any
	spans []span
}

// text leaves out texts of one byte: the language itself has but one of each.
func (k *kept) text(s string) {
	from := uintptr(unsafe.Pointer(unsafe.StringData(s)))
	if len(s) > 1 {
		k.all, k.spans = append(k.all, s), append(k.spans, span{from, from + uintptr(len(s))})
	}
}

func (k *kept) entry(e journal.Entry) {
	k.text(e.Event.Bytes)
	for _, o := range e.Outputs {
		k.text(o.Bytes)
	}
	if cap(e.Outputs) > 0 {
		from := uintptr(unsafe.Pointer(unsafe.SliceData(e.Outputs)))
		k.all, k.spans = append(k.all, e.Outputs), append(k.spans, span{from, from + uintptr(cap(e.Outputs))*unsafe.Sizeof(api.Output{})})
	}
}

// shares tells whether two of them have memory in common.
func (k *kept) shares() bool {
	l := slices.SortedFunc(slices.Values(k.spans), func(a, b span) int { return cmp.Compare(a.from, b.from) })
	for i := 1; i < len(l); i++ {
		if l[i].from < l[i-1].to {
			return true
		}
	}
	return false
}

// TestNewMemory: entries that are appended, those that come out, and bytes share none.
func TestNewMemory(t *testing.T) {
	r := rand.New(rand.NewSource(2311))
	for range 30 {
		var k kept
		j := journal.New()
		for range 1 + r.Intn(5) {
			e := someEntry(r)
			k.entry(e)
			appends(t, j, e)
		}
		b := j.Bytes()
		k.text(b)
		k.text(j.Bytes())
		x, _, _ := journal.Open(b)
		k.text(x.Bytes())
		for _, j := range []*journal.Journal{j, j, x, x} {
			for _, e := range j.All() {
				k.entry(e)
			}
		}
		if k.shares() {
			t.Fatal("P3: what is answered is memory that is another's")
		}
		runtime.KeepAlive(k)
	}
}

// TestFaultsAreNew: what one is told can be written into.
func TestFaultsAreNew(t *testing.T) {
	long := event(strings.Repeat("x", mostBody))
	j := journal.New()
	for range 3 {
		err := j.Append(long)
		isFault(t, "J2", err, 0, api.ErrArg)
		*err.(*journal.Fault) = journal.Fault{At: 99, Code: 99}
		_, _, err = journal.Open("wrong")
		isFault(t, "J3", err, 0, api.ErrJournal)
		*err.(*journal.Fault) = journal.Fault{At: 99, Code: 99}
	}
}

// heap is how many bytes are in use.
func heap() int {
	var m runtime.MemStats
	runtime.GC()
	runtime.ReadMemStats(&m)
	return int(m.HeapAlloc)
}

// TestNoMoreIsKept: a journal keeps about as much as its bytes are, whatever was asked of it or refused.
func TestNoMoreIsKept(t *testing.T) {
	long := event(strings.Repeat("x", 2*mostBody))
	before := heap()
	j := journal.New()
	for n := range 100_000 {
		appends(t, j, tick(n))
		for range j.All() {
			break
		}
	}
	for range 5 {
		j.Append(long)
	}
	bytes := len(j.Bytes())
	if more := heap() - before; more > 3*bytes {
		t.Errorf("P3: a journal of %d bytes keeps %d", bytes, more)
	}
	x, _, _ := journal.Open(strings.Repeat("no journal", 1_000_000))
	if more := heap() - before; more > 3*bytes {
		t.Errorf("P3: a journal of nothing keeps %d bytes", more-bytes)
	}
	runtime.KeepAlive(x)
	runtime.KeepAlive(j)
	runtime.KeepAlive(long)
}

// TestNothingGoesOn: when a call has answered, or a range is left, no goroutine is left behind.
func TestNothingGoesOn(t *testing.T) {
	before := runtime.NumGoroutine()
	b := journalBytes(several())
	for n := range len(b) {
		j, _, _ := journal.Open(b[:n])
		for range j.All() {
			break
		}
		told(t, j)
	}
	if n := runtime.NumGoroutine(); n > before {
		t.Errorf("P1: behind all calls there are %d goroutines; there were %d", n, before)
	}
}
