package wheel_test

import (
	"fmt"
	"iter"
	"math/rand"
	"runtime"
	"slices"
	"sync"
	"testing"
	"unsafe"
	"weak"

	"turnstile/api"
	"turnstile/wheel"
)

// What holds of all calls (P1 to P5).

// answers is what many calls answer, as texts.
func answers() []string {
	var l []string
	r := rand.New(rand.NewSource(1705))
	for slots := -1; slots < 30; slots++ {
		w, e := wheel.New[string](slots)
		l = append(l, fmt.Sprint(w != nil, e))
		for i := 0; w != nil && i < 300; i++ {
			n, e := w.Add(anyTicks(r)-1, fmt.Sprint(i))
			v, f := w.Cancel(r.Intn(300))
			k, g := w.Left(r.Intn(300))
			l = append(l, fmt.Sprint(n, e, v, f, k, g, w.Tick(), w.Len(), w.Now(), told(w)))
		}
	}
	return l
}

// TestSameAgain: every call answers, and the same calls answer the same, whatever was asked between, and by whom.
func TestSameAgain(t *testing.T) {
	first := answers()
	var group sync.WaitGroup
	for range 4 {
		group.Go(func() {
			if !slices.Equal(first, answers()) {
				t.Error("P4: the same calls answer another thing once more")
			}
		})
	}
	group.Wait()
}

// TestWheelsAreTheirOwn: what is done with one does not show in another.
func TestWheelsAreTheirOwn(t *testing.T) {
	r := rand.New(rand.NewSource(1706))
	var all []*both
	for i := range 12 {
		all = append(all, newBoth(t, 1+i%4))
	}
	for range 5000 {
		oneOf(r, all...).anything(r)
		oneOf(r, all...).counts()
	}
	for _, b := range all {
		b.stands()
	}
}

// TestAskingChangesNothing: nor does what is refused.
func TestAskingChangesNothing(t *testing.T) {
	r := rand.New(rand.NewSource(1707))
	for range 100 {
		b := newBoth(t, oneOf(r, sizes...))
		for range 100 {
			b.anything(r)
			for range 3 {
				b.w.Len()
				b.w.Now()
				b.w.Left(r.Intn(100))
				b.w.Left(-1)
				b.w.Cancel(0)
				b.w.Cancel(b.m.many + 1)
				b.w.Add(0, "x")
				b.w.Add(api.MaxTicks+1, "x")
				told(b.w)
			}
		}
		b.stands()
	}
}

// TestThingsAreHandedOn: what they point to is neither copied nor written into.
func TestThingsAreHandedOn(t *testing.T) {
	for _, slots := range sizes {
		w := made[[]byte](t, slots)
		mine := [][]byte{[]byte("abc"), []byte("defg")[:2], nil, {}}
		for i, b := range mine {
			w.Add(1+i%2, b)
		}
		w.Add(1, mine[0])
		all := map[int][]byte{}
		for timer, b := range w.All() {
			all[timer] = b
		}
		cancelled, _ := w.Cancel(5)
		l := slices.Concat(w.Tick(), w.Tick())
		for i, k := range []int{0, 2, 1, 3} {
			for _, b := range [][]byte{l[i], all[k+1]} {
				if unsafe.SliceData(b) != unsafe.SliceData(mine[k]) || len(b) != len(mine[k]) || cap(b) != cap(mine[k]) || (b == nil) != (mine[k] == nil) {
					t.Errorf("W: of %d slots: the thing %d is another one: %q", slots, k, b)
				}
			}
		}
		if &cancelled[0] != &mine[0][0] {
			t.Error("W4: Cancel hands on another thing")
		}
		if string(mine[0]) != "abc" || string(mine[1][:4]) != "defg" {
			t.Errorf("P3: the things became %q", mine)
		}
	}
}

// TestTickIsNewMemory: what a tick brought can be written into, spare room too, and nothing shows of it; and later ticks do not change it.
func TestTickIsNewMemory(t *testing.T) {
	r := rand.New(rand.NewSource(1708))
	for range 100 {
		b := newBoth(t, oneOf(r, sizes...))
		var kept [][]string
		for i := range 300 {
			for range r.Intn(5) {
				b.add(1+r.Intn(8), fmt.Sprint(i))
			}
			l := b.w.Tick()
			if !slices.Equal(l, b.m.tick()) {
				t.Fatalf("W3: the tick %d brings %q", i+1, l)
			}
			l = l[:cap(l)]
			for k := range l {
				l[k] = "mine"
			}
			kept = append(kept, l)
		}
		b.stands()
		seen := map[*string]bool{}
		for _, l := range kept {
			for k := range l {
				if l[k] != "mine" {
					t.Fatalf("P3: what a tick brought became %q", l)
				}
				if seen[&l[k]] {
					t.Fatal("P3: two ticks brought lists that share memory")
				}
				seen[&l[k]] = true
			}
		}
	}
}

// TestAllLeftEarly: at each place, and gone over again behind that.
func TestAllLeftEarly(t *testing.T) {
	w := filled(t, 3, 4, 1, 4, 2, 9, 1)
	whole := told(w)
	all := w.All()
	for n := range len(whole) + 2 {
		var l []string
		for timer, v := range all {
			if len(l) == n {
				break
			}
			l = append(l, fmt.Sprint(timer, " ", v))
		}
		if !slices.Equal(l, whole[:min(n, len(whole))]) {
			t.Errorf("P3: All, left behind %d, tells %q", n, l)
		}
		asked := 0
		all(func(int, string) bool {
			asked++
			return asked < n
		})
		if want := max(1, min(n, len(whole))); asked != want {
			t.Errorf("P3: All goes on: %d asked; must be %d", asked, want)
		}
	}
}

// TestAllWithinItself: each range is its own.
func TestAllWithinItself(t *testing.T) {
	w := filled(t, 2, 4, 1, 4, 2, 9, 1)
	whole := told(w)
	all := w.All()
	var outer []string
	for timer, v := range all {
		outer = append(outer, fmt.Sprint(timer, " ", v))
		if inner := told(w); !slices.Equal(inner, whole) {
			t.Errorf("P3: All within itself tells %q", inner)
		}
	}
	if !slices.Equal(outer, whole) {
		t.Errorf("P3: All with itself within it tells %q", outer)
	}
	one, stopOne := iter.Pull2(all)
	two, stopTwo := iter.Pull2(all)
	defer stopOne()
	defer stopTwo()
	for range len(whole) + 1 {
		a, u, ok := one()
		b, v, also := two()
		if a != b || u != v || ok != also {
			t.Errorf("P3: two ranges side by side tell %d and %d", a, b)
		}
	}
}

// TestAllWhileItChanges: a range goes over what there was when it began, not when All was called, and calls within it do not show.
func TestAllWhileItChanges(t *testing.T) {
	r := rand.New(rand.NewSource(1709))
	for range 300 {
		b := newBoth(t, oneOf(r, sizes...))
		all := b.w.All()
		for range r.Intn(60) {
			b.anything(r)
		}
		want := b.m.all()
		var l []string
		for timer, v := range all {
			l = append(l, fmt.Sprint(timer, " ", v))
			switch r.Intn(5) {
			case 0:
				b.cancel(timer)
				b.add(1, "new")
			case 1:
				b.add(1+r.Intn(3), "new")
			case 2:
				b.tick()
			case 3:
				for n := range b.w.All() {
					b.cancel(n)
				}
			case 4:
				b.anything(r)
			}
			if r.Intn(4) == 0 {
				b.stands()
			}
		}
		if !slices.Equal(l, want) {
			t.Errorf("W5: All tells %q; when the range began there was %q", l, want)
		}
		b.stands()
		l = nil
		for timer, v := range all {
			l = append(l, fmt.Sprint(timer, " ", v))
		}
		if want := b.m.all(); !slices.Equal(l, want) {
			t.Errorf("P3: All, gone over again, tells %q; must be %q", l, want)
		}
	}
}

// heap is how many bytes are in use.
func heap() int {
	var m runtime.MemStats
	runtime.GC()
	runtime.ReadMemStats(&m)
	return int(m.HeapAlloc)
}

// TestThingsAreLetGo: what waits is kept, and what came or was cancelled is not, whatever waits beside it.
func TestThingsAreLetGo(t *testing.T) {
	for _, slots := range sizes {
		w := made[*[1000]byte](t, slots)
		var things []weak.Pointer[[1000]byte]
		for i := range 8 {
			thing := new([1000]byte)
			things = append(things, weak.Make(thing))
			w.Add(1+i%2*4, thing)
		}
		for range w.All() {
			break
		}
		lets := func(timers ...int) {
			t.Helper()
			runtime.GC()
			for i, x := range things {
				if gone := slices.Contains(timers, i+1); gone != (x.Value() == nil) {
					t.Errorf("W: of %d slots: the thing %d is gone: %v; must be %v", slots, i+1, !gone, gone)
				}
			}
		}
		lets()
		w.Cancel(2)
		w.Cancel(8)
		w.Cancel(3)
		lets(2, 3, 8)
		w.Tick()
		lets(1, 2, 3, 5, 7, 8)
		for range 4 {
			w.Tick()
		}
		lets(1, 2, 3, 4, 5, 6, 7, 8)
		runtime.KeepAlive(w)
	}
}

// TestNoMoreIsKept: room is given back, whether things come or are cancelled, without ticks too.
func TestNoMoreIsKept(t *testing.T) {
	w := made[int](t, 512)
	for range 100000 {
		w.Add(7, 1)
	}
	for range 512 {
		w.Tick()
	}
	before := heap()
	for range 512 { // a crowd in each slot, and one that stays
		for range 1000 {
			w.Add(2, 1)
		}
		w.Add(512*100+2, 1)
		w.Tick()
	}
	w.Tick()
	w.Tick()
	if more := heap() - before; w.Len() != 512 || more > 1_000_000 {
		t.Errorf("W: behind 512000 things that came a wheel with %d keeps %d bytes", w.Len(), more)
	}
	for i := range 512 { // the same, cancelled
		first, _ := w.Add(1+i, 1)
		for range 300 {
			w.Add(1+i, 1)
		}
		for k := range 301 {
			w.Cancel(first + k)
		}
	}
	if more := heap() - before; w.Len() != 512 || more > 1_000_000 {
		t.Errorf("W: behind 154112 things that were cancelled a wheel with %d keeps %d bytes", w.Len(), more)
	}
	for range 300000 {
		timer, _ := w.Add(50, 1)
		w.Cancel(timer)
	}
	if more := heap() - before; more > 1_000_000 {
		t.Errorf("W: behind Add and Cancel of 300000 things a wheel keeps %d bytes", more)
	}
	runtime.KeepAlive(w)
}
