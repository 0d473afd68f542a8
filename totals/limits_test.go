package totals

import (
	"slices"
	"testing"

	"turnstile/api"
)

// What so many notes would be needed for that no test can make them: numbers at their most.

// pairs are such that each kind grows with one of them at least.
func pairs() [][2]api.Message {
	var l [][2]api.Message
	for _, mti := range [][2]string{{"0200", "0210"}, {"1121", "1130"}, {"0420", "0430"}} {
		for _, processing := range []string{"00", "20"} {
			for _, code := range []string{"00", "51"} {
				x := api.Message{MTI: mti[0], Fields: []api.Field{{Number: 3, Value: processing}, {Number: 4, Value: "7"}}}
				l = append(l, [2]api.Message{x, {MTI: mti[1], Fields: []api.Field{{Number: 39, Value: code}}}})
			}
		}
	}
	return l
}

// grows is what a pair adds to a book in which nothing was counted.
func grows(t *testing.T, p [2]api.Message) tally {
	t.Helper()
	b := &Book{links: make([]tally, 1)}
	if e := b.Note(0, p[0], p[1]); e != api.OK {
		t.Fatalf("22.2: Note(%v, %v) = %d", p[0], p[1], e)
	}
	return b.links[0]
}

// TestMostOfEach: a pair is counted just where all that grows with it has room.
func TestMostOfEach(t *testing.T) {
	var seen [kinds]int
	for _, p := range pairs() {
		more := grows(t, p)
		for kind := range kinds {
			most := 9999999999
			if kind >= 8 {
				most = 9999999999999999
			}
			for _, room := range []int{0, 1, 2, 6, 7, 8} {
				b := &Book{links: make([]tally, 2)}
				b.links[1][kind] = most - room
				want, code := b.links[1], api.ErrTotals
				if more[kind] <= room {
					code = api.OK
					for i, n := range more {
						want[i] += n
					}
				} else {
					seen[kind]++
				}
				if e := b.Note(1, p[0], p[1]); e != code || b.links[1] != want || b.links[0] != (tally{}) {
					t.Fatalf("22.2: Note(%v, %v) where %d has room for %d = %d, and leads to %v; must be %d, %v", p[0], p[1], kind, room, e, b.links[1], code, want)
				}
			}
		}
	}
	if slices.Min(seen[:]) == 0 {
		t.Errorf("the test saw only these kinds refused: %v", seen)
	}
}

// TestMostIsTold: as many digits as it has room for, in its own field.
func TestMostIsTold(t *testing.T) {
	b := &Book{links: make([]tally, 1)}
	for kind := range kinds {
		b.links[0][kind] = 1234567890 + kind
		if kind >= 8 {
			b.links[0][kind] = 9999999999999900 + kind
		}
	}
	want := api.Counts{
		Requests: 1234567890, Approved: 1234567891, Declined: 1234567892, Advices: 1234567893,
		Credits: 1234567894, CreditsBack: 1234567895, Debits: 1234567896, DebitsBack: 1234567897,
		CreditSum: 9999999999999908, CreditBackSum: 9999999999999909, DebitSum: 9999999999999910, DebitBackSum: 9999999999999911,
	}
	if c, e := b.Counts(0); c != want || e != api.OK {
		t.Errorf("22.3: Counts = %+v, %d; must be %+v", c, e, want)
	}
	l, _ := b.Fields(0)
	var values []string
	for _, f := range l {
		values = append(values, f.Value)
	}
	if told := []string{"1234567894", "1234567895", "1234567896", "1234567897", "9999999999999908", "9999999999999909", "9999999999999910", "9999999999999911"}; !slices.Equal(values, told) {
		t.Errorf("22.3: Fields tells %q; must be %q", values, told)
	}
	if ok, e := b.Settle(0, api.Message{MTI: "0500", Fields: l}); !ok || e != api.OK || b.links[0] != (tally{}) {
		t.Errorf("22.6: Settle of what Fields tells = %v, %d, and leads to %v", ok, e, b.links[0])
	}
}

// TestMostOfSum: two books have a sum just where each of it has room.
func TestMostOfSum(t *testing.T) {
	for kind := range kinds {
		most := 9999999999
		if kind >= 8 {
			most = 9999999999999999
		}
		for _, n := range []int{0, 1, most / 2, most - 1, most} {
			for _, other := range []int{0, 1, 2, most - n - 1, most - n, most - n + 1, most} {
				if other < 0 || other > most {
					continue
				}
				for _, link := range []int{0, 1, 31} {
					a, b := &Book{links: make([]tally, 32)}, &Book{links: make([]tally, 32)}
					a.links[link][kind], b.links[link][kind] = n, other
					l, e := Sum(a, b)
					if n+other > most {
						if len(l) != 0 || e != api.ErrTotals {
							t.Fatalf("22.5: Sum where %d is %d and %d is %d", kind, n, other, e)
						}
						continue
					}
					want := make([]api.Counts, 32)
					want[link] = tallyOf(kind, n+other).counts()
					if !slices.Equal(l, want) || e != api.OK {
						t.Fatalf("22.5: Sum where %d is %d and %d is %v, %d", kind, n, other, l, e)
					}
				}
			}
		}
	}
}

func tallyOf(kind, n int) tally {
	var t tally
	t[kind] = n
	return t
}

// TestSumDoesNotGoRound: however many books there are, and in whichever shares they are added up: 1845 of the greatest sums together are so little above 2^64 that it would have room again.
func TestSumDoesNotGoRound(t *testing.T) {
	for kind := range kinds {
		full := &Book{links: make([]tally, 2)}
		full.links[1][kind] = 9999999999999999
		if kind < 8 {
			full.links[1][kind] = 9999999999
		}
		for _, n := range []int{2, 3, 8, 9, 231, 922, 923, 924, 1844, 1845, 1846, 8 * 1845, 8*1845 + 1, 15000} {
			if l, e := Sum(slices.Repeat([]*Book{full}, n)...); len(l) != 0 || e != api.ErrTotals {
				t.Fatalf("22.5: Sum of %d books with the most of %d is %v, %d", n, kind, l, e)
			}
		}
		if l, e := Sum(full); len(l) != 2 || l[1] != full.links[1].counts() || e != api.OK {
			t.Fatalf("22.5: Sum of one book with the most of %d is %v, %d", kind, l, e)
		}
	}
}
