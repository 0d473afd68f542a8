package standin_test

import (
	"fmt"
	"math/rand"
	"reflect"
	"runtime"
	"slices"
	"strings"
	"sync"
	"testing"
	"unsafe"

	"turnstile/api"
	"turnstile/standin"
)

// What holds of all calls (P1 to P5).

// told is what many calls answer, as texts.
func told() []string {
	var l []string
	add := func(args ...any) { l = append(l, fmt.Sprint(args...)) }
	r := rand.New(rand.NewSource(2105))
	anyOf := func() int { return oneOf(r, oneOf(r, edges...), r.Intn(9), r.Intn(9)) }
	anyLimits := func() api.Limits { return limits(anyOf(), anyOf(), anyOf(), anyOf()) }
	for _, n := range edges {
		b, e := standin.New(n)
		add(b != nil, e)
		for i := 0; b != nil && i < 3000; i++ {
			card := oneOf(r, append(cardNames, "")...)
			add(b.Ask(wide, card, r.Intn(3), i/9), b.Ask(anyLimits(), card, anyOf(), i/9), b.Undo(card, r.Intn(3), i/9), b.Undo(card, anyOf(), anyOf()), b.Len())
			n, s := b.Used(anyLimits(), card, anyOf())
			k, u := b.Used(wide, card, max(0, i/9-r.Intn(50)))
			add(n, s, k, u)
		}
		if b != nil {
			add(b.Ask(anyLimits(), "a", anyOf(), anyOf()), b.Len())
		}
	}
	return l
}

// TestSameAgain: every call answers, and the same calls answer the same, whatever was asked between, and by whom, and in whatever order a map is gone through.
func TestSameAgain(t *testing.T) {
	first := told()
	var group sync.WaitGroup
	for range 4 {
		group.Go(func() {
			if !slices.Equal(first, told()) {
				t.Error("P4: the same calls answer another thing once more")
			}
		})
	}
	group.Wait()
}

// TestBooksAreTheirOwn: what is done with one does not show in another.
func TestBooksAreTheirOwn(t *testing.T) {
	r := rand.New(rand.NewSource(2106))
	var all []*both
	for i := range 12 {
		all = append(all, newBoth(t, 1+i%5))
	}
	for range 5000 {
		oneOf(r, all...).anything(r)
		oneOf(r, all...).used(narrow, "a", r.Intn(100))
	}
	for _, b := range all {
		b.stands()
	}
}

// TestAskingChangesNothing: nor does what is refused.
func TestAskingChangesNothing(t *testing.T) {
	r := rand.New(rand.NewSource(2107))
	for range 100 {
		b := newBoth(t, 1+r.Intn(5))
		for range 100 {
			b.anything(r)
			for _, c := range cardNames {
				asks(t, b.b, api.ErrLimit, limits(1, 0, most, 1), c, 1, b.now+1000)
				asks(t, b.b, api.ErrLimit, limits(0, 5, most, 1), c, 1, b.now+1000)
				asks(t, b.b, api.ErrArg, limits(1, 1, 1, 0), c, 1, b.now+1000)
				asks(t, b.b, api.ErrAmount, wide, c, most+1, b.now+1000)
				undoes(t, b.b, false, c, -1, b.now)
				undoes(t, b.b, false, c, 1, b.now+1)
				b.b.Used(wide, c, b.now+1000)
			}
			asks(t, b.b, api.ErrPAN, wide, "", 1, b.now+1000)
			b.stands()
		}
		b.forgetsAlike()
	}
}

// TestNothingMoreIsExported: the book has the chapter's calls, and no others.
func TestNothingMoreIsExported(t *testing.T) {
	var names []string
	for m := range reflect.TypeFor[*standin.Book]().Methods() {
		names = append(names, m.Name)
	}
	if want := []string{"Ask", "Len", "Undo", "Used"}; !slices.Equal(names, want) {
		t.Errorf("21: the book's calls are %q; must be %q", names, want)
	}
	for f := range reflect.TypeFor[standin.Book]().Fields() {
		if f.IsExported() {
			t.Errorf("21: the book's field %s is exported", f.Name)
		}
	}
}

// TestTextsAreNotKept: what becomes of their bytes later does not show.
func TestTextsAreNotKept(t *testing.T) {
	bytes := []byte("card")
	card := unsafe.String(&bytes[0], len(bytes))
	b := made(t, 2)
	ask := func(units int) {
		t.Helper()
		copy(bytes, "card")
		gives(t, b, units, 0, card)
		copy(bytes, "drac")
	}
	ask(1)
	ask(2)
	has(t, b, "card", 2, 3)
	has(t, b, "drac", 0, 0)
	undoes(t, b, true, "card", 2, 0)
	undoes(t, b, false, "drac", 1, 0)
	ask(3)
	gives(t, b, 1, 0, "other", "third")
	remembers(t, b, 1, "card", "other", "third")
	ask(4)
	undoes(t, b, true, "card", 4, 0)
	length(t, b, 1)
}

// heap is how many bytes are in use.
func heap() int {
	var m runtime.MemStats
	runtime.GC()
	runtime.ReadMemStats(&m)
	return int(m.HeapAlloc)
}

// keeps holds that a book has grown by no more than so many bytes.
func keeps(t *testing.T, b *standin.Book, before, most int, what string) {
	t.Helper()
	if more := heap() - before; more > most {
		t.Errorf("P3: behind %s a book of %d cards keeps %d bytes", what, b.Len(), more)
	}
	runtime.KeepAlive(b)
}

// TestNoMoreIsKept: of cards that were refused, forgotten, or undone; nor of approvals.
func TestNoMoreIsKept(t *testing.T) {
	long := func(n int) string { return strings.Repeat(fmt.Sprint(n%10), 50_000) + fmt.Sprint(n) }
	b := made(t, 200)
	before := heap()
	for n := range 200 {
		asks(t, b, api.ErrLimit, limits(0, 1, 1, 1), long(n), 1, 0)
	}
	keeps(t, b, before, 500_000, "200 long cards that were refused")
	for n := range 200 {
		gives(t, b, 1, 0, long(n))
	}
	for n := range 200 {
		undoes(t, b, true, long((n*77)%200), 1, 0)
	}
	length(t, b, 0)
	keeps(t, b, before, 500_000, "200 long cards that were undone")
	for n := range 200 {
		gives(t, b, 1, 0, long(n))
	}
	for n := range 200 {
		gives(t, b, 1, 0, fmt.Sprint(n))
	}
	length(t, b, 200)
	keeps(t, b, before, 500_000, "200 long cards that were forgotten")
	for range 50_000 {
		gives(t, b, 1, 0, "199")
	}
	for range 50_000 {
		undoes(t, b, true, "199", 1, 0)
	}
	has(t, b, "199", 1, 1)
	keeps(t, b, before, 500_000, "50000 approvals that were undone")
}

// TestPiecesAreNotKept: a card that is a piece of a long text does not keep that.
func TestPiecesAreNotKept(t *testing.T) {
	b := made(t, 100)
	before := heap()
	for n := range 50 {
		text := fmt.Sprint(10+n) + strings.Repeat("x", 100_000)
		gives(t, b, 1, n, text[:2])
		gives(t, b, 1, n, strings.Clone(text)[:2])
	}
	length(t, b, 50)
	keeps(t, b, before, 500_000, "cards that are pieces of long texts")
}

// TestBookStaysSmall: however many cards and approvals go through it.
func TestBookStaysSmall(t *testing.T) {
	b := made(t, 100)
	before := heap()
	for n := range 300_000 {
		gives(t, b, 1, n, fmt.Sprint(n))
	}
	keeps(t, b, before, 1_000_000, "300000 cards")
	gives(t, b, 2, 300_000, "stays")
	for n := range 300_000 {
		gives(t, b, 1, 300_001+n, "stays")
		undoes(t, b, true, "stays", 1, 300_001+n)
	}
	keeps(t, b, before, 1_000_000, "300000 approvals that were undone")
}
