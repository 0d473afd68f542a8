package journal_test

import (
	"errors"
	"fmt"
	"math"
	"math/rand"
	"runtime"
	"strings"
	"testing"

	"turnstile/api"
	"turnstile/journal"
)

// TestNumbersByHand: each in the place of N, as it stands in the body.
func TestNumbersByHand(t *testing.T) {
	for n, want := range map[int]string{
		0: "\x00", -1: "\x01", 1: "\x02", -2: "\x03", 3: "\x06",
		63: "\x7e", -64: "\x7f", 64: "\x80\x01", -65: "\x81\x01", 300: "\xd8\x04",
		8191: "\xfe\x7f", -8192: "\xff\x7f", 8192: "\x80\x80\x01",
		math.MaxInt: "\xfe\xff\xff\xff\xff\xff\xff\xff\xff\x01",
		math.MinInt: "\xff\xff\xff\xff\xff\xff\xff\xff\xff\x01",
		1 << 62:     "\x80\x80\x80\x80\x80\x80\x80\x80\x80\x01",
		1<<62 - 1:   "\xfe\xff\xff\xff\xff\xff\xff\xff\x7f",
	} {
		b := made(t, journal.Entry{Event: api.Event{N: n}}).Bytes()
		if body := b[8 : len(b)-4]; body != "\x00\x00"+want+"\x00\x00" {
			t.Errorf("J2: the body with an N of %d is %q; must have %q", n, body, want)
		}
	}
}

// TestOrderByHand: all parts of an entry, one behind the other.
func TestOrderByHand(t *testing.T) {
	j := made(t, tick(0), journal.Entry{
		Event:   api.Event{Kind: 1, Link: 2, N: 3, Bytes: "abc"},
		Outputs: []api.Output{{Kind: 4, Link: 5, Code: 6, At: 7, Bytes: "d"}, {Kind: -4, Link: -5, Code: -6, At: -7, Bytes: "\x00\xff"}},
	})
	body := "\x02\x04\x06\x06abc\x04" + "\x08\x0a\x0c\x0e\x02d" + "\x07\x09\x0b\x0d\x04\x00\xff"
	want := summed("\x00\x00\x00\x01\x00\x00\x00\x05\x04\x00\x00\x00\x00") + summed("\x00\x00\x00\x02\x00\x00\x00\x15"+body)
	if b := j.Bytes(); b != want {
		t.Errorf("J2: Bytes = %q; must be %q", b, want)
	}
}

// TestEachPart: each number of an entry at each edge, and texts and lists of outputs about the edges of their numbers.
func TestEachPart(t *testing.T) {
	var all []journal.Entry
	add := func(e journal.Entry) {
		all = append(all, e)
		stands(t, made(t, e), []journal.Entry{e})
	}
	for _, n := range edges {
		add(journal.Entry{Event: api.Event{Kind: n}})
		add(journal.Entry{Event: api.Event{Link: n}})
		add(journal.Entry{Event: api.Event{N: n}})
		add(with(api.Output{Kind: n}))
		add(with(api.Output{Link: n}, api.Output{}))
		add(with(api.Output{}, api.Output{Code: api.Errno(n)}))
		add(with(api.Output{At: n}))
	}
	for _, n := range []int{0, 1, 2, 62, 63, 64, 65, 127, 128, 255, 256, 8191, 8192, 70000, 1<<20 - 1, 1 << 20} {
		s := strings.Repeat("\x80x", n/2+1)[:n]
		add(event(s))
		add(with(api.Output{Bytes: s}))
		add(with(api.Output{}, api.Output{Bytes: s}, api.Output{At: 1}))
		if n < 10000 {
			add(journal.Entry{Event: api.Event{Bytes: s}, Outputs: make([]api.Output, n)})
		}
	}
	for i := range 256 {
		s := string([]byte{byte(i)})
		add(journal.Entry{Event: api.Event{Bytes: s}, Outputs: []api.Output{{Bytes: s + s}}})
	}
	j := made(t, all...)
	stands(t, j, all)
	opens(t, j.Bytes(), len(j.Bytes()), all)
}

// TestManyEntries: so many that their numbers have three bytes.
func TestManyEntries(t *testing.T) {
	var l []journal.Entry
	j := journal.New()
	for n := range 70000 {
		l = append(l, tick(n))
		appends(t, j, tick(n))
		if j.Len() != n+1 {
			t.Fatalf("J2: Len = %d; must be %d", j.Len(), n+1)
		}
	}
	stands(t, j, l)
	opens(t, j.Bytes(), len(j.Bytes()), l)
}

// refuses holds that an entry does not fit, and that nothing has changed then.
func refuses(t *testing.T, j *journal.Journal, e journal.Entry) {
	t.Helper()
	before, n := j.Bytes(), j.Len()
	isFault(t, "J2", j.Append(e), 0, api.ErrArg)
	if j.Bytes() != before || j.Len() != n {
		t.Errorf("J2: what does not fit changed the journal: it has %d entries, %d bytes; had %d, %d", j.Len(), len(j.Bytes()), n, len(before))
	}
}

// TestFits: bodies of just as many bytes as may be, and of one more, by each part of an entry.
func TestFits(t *testing.T) {
	text := func(n int) string { return strings.Repeat("x", n) }
	outputs := func(n int, l ...api.Output) []api.Output { return append(make([]api.Output, n), l...) }
	for i, c := range []struct{ most, over journal.Entry }{
		{event(text(9999992)), event(text(9999993))},
		{with(api.Output{Bytes: text(9999987)}), with(api.Output{Bytes: text(9999988)})},
		{journal.Entry{Event: api.Event{Kind: 64, Bytes: text(9999991)}}, journal.Entry{Event: api.Event{Kind: -1 << 20, Bytes: text(9999991)}}},
		{journal.Entry{Event: api.Event{Link: -64, Bytes: text(9999992)}}, journal.Entry{Event: api.Event{Link: -65, Bytes: text(9999992)}}},
		{journal.Entry{Event: api.Event{N: 63, Bytes: text(9999992)}}, journal.Entry{Event: api.Event{N: 64, Bytes: text(9999992)}}},
		{with(outputs(1, api.Output{Bytes: text(9999982)})...), with(outputs(1, api.Output{Bytes: text(9999983)})...)},
		{with(api.Output{Bytes: text(9999982)}, api.Output{}), with(api.Output{Bytes: text(9999982)}, api.Output{Kind: -65})},
		{journal.Entry{Event: api.Event{Bytes: text(5000000)}, Outputs: []api.Output{{Bytes: text(4999984)}}}, journal.Entry{Event: api.Event{Bytes: text(5000000)}, Outputs: []api.Output{{Bytes: text(4999985)}}}},
		{event(text(9999992)), journal.Entry{Event: api.Event{Bytes: text(9999992)}, Outputs: outputs(1)}}, // what it has ahead of the last output would just fit
		{with(api.Output{Bytes: text(9999987)}), with(api.Output{Bytes: text(9999987)}, api.Output{})},
		{journal.Entry{Event: api.Event{Bytes: "ab"}, Outputs: outputs(1999998)}, journal.Entry{Event: api.Event{Bytes: "abc"}, Outputs: outputs(1999998)}},
		{with(outputs(1999997, api.Output{At: 1 << 13})...), with(outputs(1999997, api.Output{Link: 1 << 20, At: 1})...)},
	} {
		size := len(bodyBytes(c.most))
		if n := len(bodyBytes(c.over)); size > mostBody || size < mostBody-4 || n <= mostBody || n > mostBody+5 {
			t.Fatalf("the test's bodies have %d and %d bytes", size, n)
		}
		j := made(t, tick(1))
		refuses(t, j, c.over)
		appends(t, j, c.most, tick(2))
		if b, want := j.Bytes(), journalBytes([]journal.Entry{tick(1), c.most, tick(2)}); b != want {
			t.Errorf("J2: case %d: the journal has %d bytes, others than it must have (%d)", i, len(b), len(want))
		}
		if x, n, err := journal.Open(j.Bytes()); x.Len() != 3 || n != len(j.Bytes()) || err != nil {
			t.Errorf("J4: case %d: Open of it: %d entries, %d, %v", i, x.Len(), n, err)
		}
		if l := told(t, j); !sameEntry(l[1], c.most) || !sameEntry(l[2], tick(2)) {
			t.Errorf("J2: case %d: All tells other entries", i)
		}
	}
}

// TestSizesAboutTheMost: each of some sizes fits or not as its body says, however it is dealt out.
func TestSizesAboutTheMost(t *testing.T) {
	r := rand.New(rand.NewSource(2302))
	long := strings.Repeat("0123456789", 1000010)
	fit := map[bool]int{}
	for range 40 {
		e := journal.Entry{Event: api.Event{Kind: someNumber(r), Link: someNumber(r), N: someNumber(r)}}
		for range 1 + r.Intn(5) {
			e.Outputs = append(e.Outputs, api.Output{Kind: someNumber(r), Code: api.Errno(someNumber(r)), At: someNumber(r), Bytes: someText(r)})
		}
		free := mostBody - len(bodyBytes(e)) - 3 + r.Intn(9) - 4
		if r.Intn(2) == 0 {
			e.Event.Bytes = long[:free-r.Intn(2)]
		} else {
			o := &e.Outputs[r.Intn(len(e.Outputs))]
			o.Bytes = long[:free+len(o.Bytes)]
		}
		size := len(bodyBytes(e))
		fit[size <= mostBody]++
		if err := journal.New().Append(e); (err == nil) != (size <= mostBody) {
			t.Fatalf("J2: Append of an entry with a body of %d bytes = %v", size, err)
		}
	}
	if fit[true] < 7 || fit[false] < 7 {
		t.Errorf("of those that fit the test saw %d, of others %d", fit[true], fit[false])
	}
}

// TestFarTooMuch: what would be very many bytes, since outputs have one long text in common, or are very many, is refused without writing them.
func TestFarTooMuch(t *testing.T) {
	long := strings.Repeat("x", 100_000_000)
	all := make([]api.Output, 1_000_000)
	for i := range all {
		all[i].Bytes = long
	}
	for _, e := range []journal.Entry{
		event(long),
		with(all...),
		with(api.Output{Bytes: long[:9_000_000]}, api.Output{Bytes: long}),
		{Event: api.Event{Bytes: long}, Outputs: all},
		with(make([]api.Output, 5_000_000)...),
	} {
		j := made(t, tick(1))
		var before, after runtime.MemStats
		runtime.ReadMemStats(&before)
		isFault(t, "J2", j.Append(e), 0, api.ErrArg)
		runtime.ReadMemStats(&after)
		if n := after.TotalAlloc - before.TotalAlloc; n > 200_000_000 {
			t.Errorf("P1: refusing an entry took %d bytes", n)
		}
		stands(t, j, []journal.Entry{tick(1)})
	}
}

// TestFault: its text tells what it is, and it is found within other errors too.
func TestFault(t *testing.T) {
	seen := map[string]bool{}
	for _, at := range []int{math.MinInt, -1, 0, 1, 17, 230, math.MaxInt} {
		for _, code := range []api.Errno{api.OK, api.ErrArg, api.ErrJournal, 17, -1} {
			f := &journal.Fault{At: at, Code: code}
			if s := f.Error(); s == "" || seen[s] {
				t.Errorf("23: the text of a fault at %d with %d is %q, as of another one, or nothing", at, code, s)
			}
			seen[f.Error()] = true
			if f.Unwrap() != code || !errors.Is(f, code) {
				t.Errorf("23: of a fault with %d Unwrap is %v", code, f.Unwrap())
			}
		}
	}
	_, _, err := journal.Open("x")
	var f *journal.Fault
	if err = fmt.Errorf("further out: %w", err); !errors.As(err, &f) || !errors.Is(err, api.ErrJournal) || errors.Is(err, api.ErrArg) {
		t.Errorf("23: within another error it is not found: %v", err)
	}
}

// TestNoError: where nothing is wrong, what is told is nil itself.
func TestNoError(t *testing.T) {
	if err := journal.New().Append(tick(1)); err != nil {
		t.Errorf("J2: Append = %#v", err)
	}
	if _, _, err := journal.Open(summed(three)); err != nil {
		t.Errorf("J3: Open = %#v", err)
	}
}
