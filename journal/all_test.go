package journal_test

import (
	"iter"
	"slices"
	"testing"

	"turnstile/api"
	"turnstile/journal"
)

// goesOver holds what a range over an iterator tells.
func goesOver(t *testing.T, all iter.Seq2[int, journal.Entry], l []journal.Entry) {
	t.Helper()
	i := 0
	for n, e := range all {
		if i == len(l) || n != i+1 || !sameEntry(e, l[i]) {
			t.Fatalf("J2: All tells %d, %.200v; there are %d entries", n, e, len(l))
		}
		i++
	}
	if i != len(l) {
		t.Fatalf("J2: All tells %d entries; there are %d", i, len(l))
	}
}

// both are journals of the same entries, one that was made, and one that was opened.
func both(t *testing.T, l ...journal.Entry) []*journal.Journal {
	t.Helper()
	j := made(t, l...)
	return []*journal.Journal{j, opens(t, j.Bytes(), len(j.Bytes()), l), opens(t, j.Bytes()+"x", len(j.Bytes()), l)}
}

// TestAllBeginsWithTheRange: what was appended ahead of that is told, what comes within it is not.
func TestAllBeginsWithTheRange(t *testing.T) {
	for _, j := range both(t, several()...) {
		all := j.All()
		l := append(several(), tick(10))
		appends(t, j, tick(10))
		goesOver(t, all, l)
		i := 0
		for n, e := range all {
			if n != i+1 || !sameEntry(e, l[i]) {
				t.Fatalf("J2: All tells %d, %v", n, e)
			}
			i++
			appends(t, j, tick(100+i), event("within"))
			refuses(t, j, event(string(make([]byte, mostBody))))
			if j.Len() != len(l)+2*i {
				t.Fatalf("J2: within a range Len is %d", j.Len())
			}
		}
		if i != len(l) {
			t.Fatalf("J2: All tells %d entries; when the range began there were %d", i, len(l))
		}
		for i := range l {
			l = append(l, tick(101+i), event("within"))
		}
		goesOver(t, all, l)
		stands(t, j, l)
	}
}

// TestAllOfNothing: also where entries come within another range over it.
func TestAllOfNothing(t *testing.T) {
	for _, j := range both(t) {
		all := j.All()
		goesOver(t, all, nil)
		appends(t, j, tick(1))
		goesOver(t, all, []journal.Entry{tick(1)})
	}
}

// TestAllIsLeft: early, and gone over again, and within itself.
func TestAllIsLeft(t *testing.T) {
	l := several()
	for _, j := range both(t, l...) {
		all := j.All()
		for stop := range l {
			i := 0
			for n, e := range all {
				if n != i+1 || !sameEntry(e, l[i]) {
					t.Fatalf("J2: All tells %d, %v", n, e)
				}
				if i == stop {
					break
				}
				i++
			}
			if i != stop {
				t.Fatalf("J2: a range that is left at %d came to %d", stop, i)
			}
		}
		i := 0
		for n, e := range all {
			goesOver(t, all, l)
			goesOver(t, j.All(), l)
			for range all {
				break
			}
			if n != i+1 || !sameEntry(e, l[i]) {
				t.Fatalf("J2: behind a range within it All tells %d, %v", n, e)
			}
			i++
		}
		goesOver(t, all, l)
	}
}

// TestAllIsPulled: several ranges that go on in turn.
func TestAllIsPulled(t *testing.T) {
	l := several()
	for _, j := range both(t, l...) {
		all := j.All()
		one, stopOne := iter.Pull2(all)
		two, stopTwo := iter.Pull2(all)
		one()
		for i := range l {
			if n, e, ok := two(); n != i+1 || !sameEntry(e, l[i]) || !ok {
				t.Fatalf("J2: the second range tells %d, %v, %v", n, e, ok)
			}
			appends(t, j, tick(i))
			if i+1 == len(l) {
				break
			}
			if n, e, ok := one(); n != i+2 || !sameEntry(e, l[i+1]) || !ok {
				t.Fatalf("J2: the first range tells %d, %v, %v", n, e, ok)
			}
		}
		if _, _, ok := two(); ok {
			t.Error("J2: All tells more than there was when the range began")
		}
		if _, _, ok := one(); ok {
			t.Error("J2: All tells more than there was when the range began")
		}
		stopOne()
		stopTwo()
	}
}

// TestListsOfNothing: nil or empty, in and out.
func TestListsOfNothing(t *testing.T) {
	j := made(t, journal.Entry{Event: api.Event{Kind: 1}}, journal.Entry{Event: api.Event{Kind: 1}, Outputs: []api.Output{}})
	l := told(t, j)
	if len(l) != 2 || len(l[0].Outputs) != 0 || len(l[1].Outputs) != 0 {
		t.Errorf("P5: All tells %v", l)
	}
	if b := j.Bytes(); b != recordBytes(1, "\x02\x00\x00\x00\x00")+recordBytes(2, "\x02\x00\x00\x00\x00") {
		t.Errorf("P5: Bytes = %q", b)
	}
	if !slices.EqualFunc(l[:1], l[1:], sameEntry) {
		t.Error("P5: a list of nothing is another one than nil")
	}
}
