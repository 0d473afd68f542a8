package totals_test

import (
	"fmt"
	"math/rand"
	"reflect"
	"runtime"
	"slices"
	"strings"
	"sync"
	"testing"
	"unsafe"

	"turnstile/api"
	"turnstile/totals"
)

// What holds of all calls (P1 to P5).

// told is what many calls answer, as texts.
func told() []string {
	var l []string
	add := func(args ...any) { l = append(l, fmt.Sprint(args...)) }
	r := rand.New(rand.NewSource(2207))
	for _, n := range edges {
		b, e := totals.New(n)
		add(b != nil, e)
		for i := 0; b != nil && i < 500; i++ {
			link := oneOf(r, r.Intn(n), r.Intn(n), r.Intn(n), oneOf(r, edges...))
			x, y := somePair(r)
			add(b.Note(link, x, y))
			c, e := b.Counts(link)
			fields, f := b.Fields(link)
			add(c, e, fields, f)
			ok, e := b.Settle(link, oneOf(r, x, of("0500", field(76, "0000000001"))))
			add(ok, e)
			other, _ := totals.New(oneOf(r, n, n, n, 1))
			sum, e := totals.Sum(slices.Repeat([]*totals.Book{b, other}, r.Intn(12))...)
			add(sum, e)
		}
	}
	return l
}

// TestSameAgain: every call answers, and the same calls answer the same, whatever was asked between, and by whom, and however goroutines run.
func TestSameAgain(t *testing.T) {
	first := told()
	var group sync.WaitGroup
	for range 4 {
		group.Go(func() {
			if !slices.Equal(first, told()) {
				t.Error("P4: the same calls answer another thing once more")
			}
		})
	}
	group.Wait()
}

// TestBooksAreTheirOwn: what is done with one does not show in another.
func TestBooksAreTheirOwn(t *testing.T) {
	r := rand.New(rand.NewSource(2208))
	var all []*both
	for i := range 12 {
		all = append(all, newBoth(t, 1+i%4))
	}
	for range 3000 {
		oneOf(r, all...).anything(r)
	}
	for _, b := range all {
		b.stands()
	}
}

// TestAskingChangesNothing: nor does what is refused, nor a Settle that does not agree.
func TestAskingChangesNothing(t *testing.T) {
	r := rand.New(rand.NewSource(2209))
	for range 30 {
		b := newBoth(t, 1+r.Intn(4))
		for range 60 {
			b.anything(r)
			for link := range b.m {
				notes(t, b.b, api.ErrMessage, link, debit(5), says("0230", "00"))
				notes(t, b.b, api.ErrMessage, link, says("0210", "00"), says("0220", "00"))
				settles(t, b.b, false, link, of("0500", field(74, "x")))
				if ok, e := b.b.Settle(link, of("0510")); ok || e != api.ErrMessage {
					t.Fatalf("22.4: Settle of 0510 = %v, %d", ok, e)
				}
			}
			refusesSum(t, api.ErrArg, b.b, made(t, 5))
			b.stands()
		}
	}
}

// TestNothingMoreIsExported: the book has the chapter's calls, and no others.
func TestNothingMoreIsExported(t *testing.T) {
	var names []string
	for m := range reflect.TypeFor[*totals.Book]().Methods() {
		names = append(names, m.Name)
	}
	if want := []string{"Counts", "Fields", "Note", "Settle"}; !slices.Equal(names, want) {
		t.Errorf("22: the book's calls are %q; must be %q", names, want)
	}
	for f := range reflect.TypeFor[totals.Book]().Fields() {
		if f.IsExported() {
			t.Errorf("22: the book's field %s is exported", f.Name)
		}
	}
}

// roomy is a message of memory of its own, with something behind its list of fields in its array.
func roomy(m api.Message) api.Message {
	l := make([]api.Field, 0, len(m.Fields)+3)
	for _, f := range m.Fields {
		l = append(l, api.Field{Number: f.Number, Value: strings.Clone(f.Value), Kids: slices.Clone(f.Kids)})
	}
	return api.Message{MTI: strings.Clone(m.MTI), Fields: append(l, field(3, "20"), field(4, "9"), field(39, "00"))[:len(l)]}
}

// behind is a message with what stands behind its list in its array, as a text.
func behind(m api.Message) string {
	m.Fields = m.Fields[:cap(m.Fields)]
	return fmt.Sprintf("%+v", m)
}

func scribble(l []api.Field) {
	l = l[:cap(l)]
	for i := range l {
		l[i] = field(-99, "scribbled")
	}
}

// TestWritingShowsNowhere: into what was handed in, and into what was told, spare room too; and nothing that was handed in is written into.
func TestWritingShowsNowhere(t *testing.T) {
	r := rand.New(rand.NewSource(2210))
	for range 50 {
		b := newBoth(t, 3)
		for range 60 {
			x, y := somePair(r)
			z := b.balance(r, 1)
			given := []api.Message{roomy(x), roomy(y), roomy(z)}
			before := []string{behind(given[0]), behind(given[1]), behind(given[2])}
			if e := b.b.Note(1, given[0], given[1]); e != b.m.note(1, pair{x, y}) {
				t.Fatalf("22.2: Note(%v, %v) = %d", x, y, e)
			}
			ok, e := b.b.Settle(1, given[2])
			if want, f := b.m.settle(1, z); ok != want || e != f {
				t.Fatalf("22.4: Settle(%v) = %v, %d", z, ok, e)
			}
			for i, m := range given {
				if behind(m) != before[i] {
					t.Fatalf("P3: what was given became %s; it was %s", behind(m), before[i])
				}
				scribble(m.Fields)
			}
			fields, _ := b.b.Fields(1)
			scribble(fields)
			books := []*totals.Book{b.b, b.b, nil}
			sum, _ := totals.Sum(books[:2]...)
			for i := range sum[:cap(sum)] {
				sum[:cap(sum)][i].Requests = -99
			}
			if !slices.Equal(books, []*totals.Book{b.b, b.b, nil}) {
				t.Fatal("P3: Sum wrote into its books, or behind them")
			}
			b.stands()
		}
	}
}

// TestNewMemory: no two answers share any, spare room too.
func TestNewMemory(t *testing.T) {
	b, _ := various(t)
	first, _ := b.Fields(0)
	second, _ := b.Fields(0)
	third, _ := b.Fields(1)
	want := fmt.Sprint(second, third)
	scribble(first)
	if fmt.Sprint(second, third) != want {
		t.Error("P3: what Fields tells twice has memory in common")
	}
	one, _ := totals.Sum(b)
	two, _ := totals.Sum(b)
	want = fmt.Sprint(two)
	clear(one[:cap(one)])
	if fmt.Sprint(two) != want {
		t.Error("P3: what Sum tells twice has memory in common")
	}
}

// TestTextsAreNotKept: what becomes of their bytes later does not show.
func TestTextsAreNotKept(t *testing.T) {
	bytes := []byte("0200 20 000000000005 0210 00 0500 0000000001")
	text := func(from, to int) string { return unsafe.String(&bytes[from], to-from) }
	b := made(t, 1)
	notes(t, b, api.OK, 0, request(text(0, 4), text(5, 7), text(8, 20)), says(text(21, 25), text(26, 28)))
	for i := range bytes[:29] {
		bytes[i] = '9'
	}
	counts(t, b, 0, api.Counts{Requests: 1, Approved: 1, Credits: 1, CreditSum: 5})
	settles(t, b, true, 0, of(text(29, 33), field(74, text(34, 44))))
	clear(bytes)
	counts(t, b, 0, api.Counts{})
}

// TestBookStaysSmall: however much is noted in it.
func TestBookStaysSmall(t *testing.T) {
	var m runtime.MemStats
	heap := func() int {
		runtime.GC()
		runtime.ReadMemStats(&m)
		return int(m.HeapAlloc)
	}
	b := made(t, 32)
	before := heap()
	long := strings.Repeat("0", 1000)
	for n := range 200_000 {
		b.Note(n%32, of("0200", field(2, strings.Clone(long)), field(4, "1")), says("0210", "00"))
	}
	counts(t, b, 31, api.Counts{Requests: 6250, Approved: 6250, Debits: 6250, DebitSum: 6250})
	if more := heap() - before; more > 500_000 {
		t.Errorf("22: behind 200000 notes a book keeps %d bytes", more)
	}
	runtime.KeepAlive(b)
}
