package frame_test

import (
	"math/rand"
	"runtime"
	"slices"
	"testing"
	"time"

	"turnstile/api"
	"turnstile/frame"
)

// splits holds Split against what a new Stream says to each text, and against the second reading.
func splits(t *testing.T, header, most int, l ...string) {
	t.Helper()
	messages, faults := frame.Split(header, most, l...)
	if len(messages) != len(l) || len(faults) != len(l) {
		t.Fatalf("F5: Split of %d texts has %d lists and %d errors", len(l), len(messages), len(faults))
	}
	for i, b := range l {
		want, e := madeStream(t, header, most).Feed([]byte(b))
		if faults[i] != e || !slices.Equal(messages[i], want) {
			t.Errorf("F5: Split(%d, %d) of %d texts: of %d, %.200q: %.300q, %d; a Feed says %.300q, %d", header, most, len(l), i, b, messages[i], faults[i], want, e)
		}
		if c := wantCut(header, most, b); faults[i] != c.code || !slices.Equal(messages[i], c.messages) {
			t.Errorf("F5: Split(%d, %d) of %d texts: of %d, %.200q: %.300q, %d; must be %.300q, %d", header, most, len(l), i, b, messages[i], faults[i], c.messages, c.code)
		}
	}
}

func TestSplitByHand(t *testing.T) {
	l, e := frame.Split(api.HeadFour, 9, "0001a", "", "x000", "0001b00000001c9", "0002de0010f")
	if !slices.Equal(e, []api.Errno{api.OK, api.OK, api.ErrHeader, api.OK, api.ErrLong}) {
		t.Errorf("F5: Split tells the errors %v", e)
	}
	if len(l) != 5 || !slices.Equal(l[0], []string{"a"}) || len(l[1]) != 0 || len(l[2]) != 0 || !slices.Equal(l[3], []string{"b", "c"}) || !slices.Equal(l[4], []string{"de"}) {
		t.Errorf("F5: Split tells the messages %q", l)
	}
	if l, e := frame.Split(api.HeadFour, 9); len(l) != 0 || len(e) != 0 {
		t.Errorf("F5: Split of nothing is %q, %v", l, e)
	}
}

func TestSplitRefusesArguments(t *testing.T) {
	for _, a := range wrongArgs() {
		for _, streams := range [][]string{nil, {""}, {"0001a"}, {"\x00\x01a", "", "0001b", "\x00\x03c"}} {
			l, e := frame.Split(a[0], a[1], streams...)
			if len(l) != len(streams) || !slices.Equal(e, slices.Repeat([]api.Errno{api.ErrArg}, len(streams))) {
				t.Errorf("F5: Split(%d, %d) of %d texts has %d lists, and the errors %v", a[0], a[1], len(streams), len(l), e)
			}
			for _, messages := range l {
				if len(messages) != 0 {
					t.Errorf("F5: Split(%d, %d) tells the messages %q", a[0], a[1], messages)
				}
			}
		}
	}
}

func TestSplitOfMany(t *testing.T) {
	r, seen := rand.New(rand.NewSource(1405)), codes{}
	for range 300 {
		header, most := oneOf(r, kinds...), oneOf(r, 1, 10, 300, 9999)
		var l []string
		for range r.Intn(60) {
			l = append(l, bentStream(r, header, min(most, 300), r.Intn(12)))
			seen[wantCut(header, most, l[len(l)-1]).code]++
		}
		splits(t, header, most, l...)
	}
	seen.enough(t, 500, api.OK, api.ErrHeader, api.ErrLong)
	var l []string
	for range 20000 {
		l = append(l, bentStream(r, api.HeadTwo, 9, r.Intn(5)))
	}
	splits(t, api.HeadTwo, 9, l...)
}

// TestSplitLeavesNobody: whoever cut for Split has ended, or is about to.
func TestSplitLeavesNobody(t *testing.T) {
	before := runtime.NumGoroutine()
	for range 50 {
		frame.Split(api.HeadFour, 9, "0001a", "", "x000", "0002a")
	}
	for range 1000 {
		if runtime.NumGoroutine() <= before {
			return
		}
		time.Sleep(5 * time.Millisecond)
	}
	t.Errorf("F5: behind Split there are %d goroutines, ahead of it %d", runtime.NumGoroutine(), before)
}
