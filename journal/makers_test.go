package journal_test

import (
	"errors"
	"hash/crc32"
	"math"
	"math/big"
	"math/rand"
	"slices"
	"strings"
	"testing"

	"turnstile/api"
	"turnstile/journal"
)

const mostBody = 10000000

// edges are numbers at which the bytes of a number become more, and far from that.
var edges = edgeNumbers()

func edgeNumbers() []int {
	l := []int{math.MinInt, math.MinInt + 1, -300, -2, -1, 0, 1, 2, 3, 300, math.MaxInt - 1, math.MaxInt}
	for bits := 6; bits < 63; bits += 7 {
		n := 1 << bits
		l = append(l, -n-1, -n, -n+1, n-1, n, n+1)
	}
	return l
}

// The chapter's words, written a second time.

var (
	zero   = big.NewInt(0)
	groups = big.NewInt(128)
)

// wholeNumber is 2n, or -2n - 1.
func wholeNumber(n int) *big.Int {
	x := big.NewInt(int64(n))
	x.Add(x, x)
	if n < 0 {
		x.Add(x, big.NewInt(1))
		x.Neg(x)
	}
	return x
}

// small are the bytes of numbers that are asked often.
var small = func() (l [200]string) {
	for n := range l {
		l[n] = longNumberBytes(n)
	}
	return l
}()

func numberBytes(n int) string {
	if 0 <= n && n < len(small) {
		return small[n]
	}
	return longNumberBytes(n)
}

func longNumberBytes(n int) string {
	var b []byte
	x, low := wholeNumber(n), new(big.Int)
	for {
		x.DivMod(x, groups, low)
		if x.Cmp(zero) == 0 {
			return string(append(b, byte(low.Int64())))
		}
		b = append(b, byte(low.Int64()+128))
	}
}

func textBytes(s string) string { return numberBytes(len(s)) + s }

func bodyBytes(e journal.Entry) string {
	var b strings.Builder
	for _, n := range []int{e.Event.Kind, e.Event.Link, e.Event.N} {
		b.WriteString(numberBytes(n))
	}
	b.WriteString(textBytes(e.Event.Bytes))
	b.WriteString(numberBytes(len(e.Outputs)))
	for _, o := range e.Outputs {
		for _, n := range []int{o.Kind, o.Link, int(o.Code), o.At} {
			b.WriteString(numberBytes(n))
		}
		b.WriteString(textBytes(o.Bytes))
	}
	return b.String()
}

func four(n int) string {
	var b []byte
	for _, unit := range []int{1 << 24, 1 << 16, 1 << 8, 1} {
		b = append(b, byte(n/unit%256))
	}
	return string(b)
}

// summed is bytes with their sum behind them, whatever they are.
func summed(s string) string { return s + four(int(crc32.ChecksumIEEE([]byte(s)))) }

func recordBytes(k int, body string) string { return summed(four(k) + four(len(body)) + body) }

func journalBytes(l []journal.Entry) string {
	var b strings.Builder
	for i, e := range l {
		b.WriteString(recordBytes(i+1, bodyBytes(e)))
	}
	return b.String()
}

// Entries.

func tick(n int) journal.Entry { return journal.Entry{Event: api.Event{Kind: api.EvTick, N: n}} }

func event(s string) journal.Entry { return journal.Entry{Event: api.Event{Bytes: s}} }

func with(l ...api.Output) journal.Entry { return journal.Entry{Outputs: l} }

// several are such as a switch would have.
func several() []journal.Entry {
	return []journal.Entry{
		tick(3),
		{Event: api.Event{Kind: api.EvUp, Link: 1}, Outputs: []api.Output{{Kind: api.OutFrame, Link: 1, Bytes: "\x00\x040800"}}},
		{Event: api.Event{Kind: api.EvBytes, Link: 0, Bytes: "00x0"}, Outputs: []api.Output{{Kind: api.OutClose, Link: 0, Code: api.ErrHeader}}},
		{Event: api.Event{Kind: api.EvBytes, Link: 31, Bytes: strings.Repeat("\xff\x00", 70)}, Outputs: []api.Output{
			{Kind: api.OutReject, Link: 31, Code: api.DefShort, At: 38},
			{Kind: api.OutFrame, Link: 2, Bytes: strings.Repeat("m", 130)},
			{},
		}},
		{},
		{Event: api.Event{Kind: math.MinInt, Link: math.MaxInt, N: -1, Bytes: "\x80"}, Outputs: []api.Output{{Kind: -1, Link: math.MinInt, Code: math.MaxInt, At: math.MinInt}}},
	}
}

func oneOf[T any](r *rand.Rand, l ...T) T { return l[r.Intn(len(l))] }

func someNumber(r *rand.Rand) int {
	return oneOf(r, r.Intn(5), r.Intn(300)-150, oneOf(r, edges...), int(r.Uint64()>>r.Intn(64)), -int(r.Uint64()>>r.Intn(64)))
}

func someText(r *rand.Rand) string {
	b := make([]byte, oneOf(r, 0, 0, 1, r.Intn(10), r.Intn(200)))
	r.Read(b)
	return string(b)
}

func someEntry(r *rand.Rand) journal.Entry {
	e := journal.Entry{Event: api.Event{Kind: someNumber(r), Link: someNumber(r), N: someNumber(r), Bytes: someText(r)}}
	for range oneOf(r, 0, 0, 1, r.Intn(4), r.Intn(4), r.Intn(70)) {
		e.Outputs = append(e.Outputs, api.Output{Kind: someNumber(r), Link: someNumber(r), Code: api.Errno(someNumber(r)), At: someNumber(r), Bytes: someText(r)})
	}
	return e
}

func someEntries(r *rand.Rand, most int) []journal.Entry {
	var l []journal.Entry
	for range r.Intn(most + 1) {
		l = append(l, someEntry(r))
	}
	return l
}

func sameEntry(a, b journal.Entry) bool {
	return a.Event == b.Event && slices.Equal(a.Outputs, b.Outputs)
}

// What must hold of journals.

func appends(t *testing.T, j *journal.Journal, l ...journal.Entry) {
	t.Helper()
	for _, e := range l {
		if err := j.Append(e); err != nil {
			t.Fatalf("J2: Append(%.200v) = %v", e, err)
		}
	}
}

func made(t *testing.T, l ...journal.Entry) *journal.Journal {
	t.Helper()
	j := journal.New()
	if j == nil {
		t.Fatal("J1: New is nil")
	}
	appends(t, j, l...)
	return j
}

// told is what All goes over; that it is numbered from 1 on is held here.
func told(t *testing.T, j *journal.Journal) []journal.Entry {
	t.Helper()
	var l []journal.Entry
	for n, e := range j.All() {
		l = append(l, e)
		if n != len(l) {
			t.Fatalf("J2: All tells the number %d; must be %d", n, len(l))
		}
	}
	return l
}

// stands holds all that a journal of these entries answers.
func stands(t *testing.T, j *journal.Journal, l []journal.Entry) {
	t.Helper()
	if j.Len() != len(l) {
		t.Fatalf("J2: Len = %d; must be %d", j.Len(), len(l))
	}
	if all := told(t, j); !slices.EqualFunc(all, l, sameEntry) {
		t.Fatalf("J2: All tells %d entries, %.300v; must be %d, %.300v", len(all), all, len(l), l)
	}
	if b, want := j.Bytes(), journalBytes(l); b != want {
		t.Fatalf("J2: Bytes = %.300q; must be %.300q", b, want)
	}
}

// isFault holds that an error is a *Fault, by all ways in which that can be asked.
func isFault(t *testing.T, promise string, err error, at int, code api.Errno) {
	t.Helper()
	f, ok := err.(*journal.Fault)
	if !ok || f == nil {
		t.Fatalf("%s: the error is %v; must be a *Fault", promise, err)
	}
	if f.At != at || f.Code != code {
		t.Fatalf("%s: the fault is at %d, with %d; must be at %d, with %d", promise, f.At, f.Code, at, code)
	}
	var found *journal.Fault
	if !errors.As(err, &found) || found != f {
		t.Fatalf("%s: errors.As does not find the *Fault", promise)
	}
	for _, e := range []api.Errno{api.OK, api.ErrArg, api.ErrJournal, api.ErrShort} {
		if errors.Is(err, e) != (e == code) {
			t.Fatalf("%s: errors.Is tells %v of %d; the code is %d", promise, errors.Is(err, e), e, code)
		}
	}
}

// opens holds what Open answers: that just these entries, in so many bytes, stand at the beginning of b.
func opens(t *testing.T, b string, n int, l []journal.Entry) *journal.Journal {
	t.Helper()
	j, at, err := journal.Open(b)
	if j == nil || at != n {
		t.Fatalf("J3: Open(%.300q) tells %d bytes (%v), and a journal: %v; must be %d", b, at, err, j != nil, n)
	}
	if n == len(b) {
		if err != nil {
			t.Fatalf("J3: Open(%.300q), of which all is right, tells %v", b, err)
		}
	} else {
		isFault(t, "J3", err, n, api.ErrJournal)
	}
	if j.Bytes() != b[:n] {
		t.Fatalf("J4: what Open took of %.300q is %.300q; must be the first %d bytes", b, j.Bytes(), n)
	}
	stands(t, j, l)
	return j
}
