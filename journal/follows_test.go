package journal_test

import (
	"math/rand"
	"strings"
	"testing"

	"turnstile/api"
	"turnstile/journal"
)

// endsOf is where each of some journals of the first entries ends, from none on.
func endsOf(l []journal.Entry) []int {
	ends := []int{0}
	for k, e := range l {
		ends = append(ends, ends[k]+len(recordBytes(k+1, bodyBytes(e))))
	}
	return ends
}

// wholeAt is how many entries are whole in the first n bytes.
func wholeAt(ends []int, n int) int {
	k := 0
	for k+1 < len(ends) && ends[k+1] <= n {
		k++
	}
	return k
}

// TestOpenOfBytes: it is the same journal, all of it.
func TestOpenOfBytes(t *testing.T) {
	r := rand.New(rand.NewSource(2304))
	for range 400 {
		l := someEntries(r, 12)
		j := made(t, l...)
		stands(t, j, l)
		b := j.Bytes()
		x := opens(t, b, len(b), l)
		more := someEntries(r, 3)
		appends(t, x, more...)
		appends(t, j, more...)
		stands(t, x, append(l, more...))
		if x.Bytes() != j.Bytes() {
			t.Fatal("J4: a journal that was opened goes on in another way")
		}
	}
}

// TestCut: anywhere; those entries that are whole are told, and it can be gone on with behind them.
func TestCut(t *testing.T) {
	r := rand.New(rand.NewSource(2305))
	lists := [][]journal.Entry{several(), nil, {tick(1)}, {{}, {}, {}}}
	for range 6 {
		lists = append(lists, someEntries(r, 4))
	}
	for _, l := range lists {
		b, ends := made(t, l...).Bytes(), endsOf(l)
		for n := range len(b) + 1 {
			k := wholeAt(ends, n)
			j := opens(t, b[:n], ends[k], l[:k])
			if n%7 == 0 {
				appends(t, j, tick(n))
				stands(t, j, append(l[:k:k], tick(n)))
			}
		}
	}
}

// TestTurned: each byte in each way; the entries ahead of its record are told, and no more.
func TestTurned(t *testing.T) {
	l := several()[:3]
	b, ends := made(t, l...).Bytes(), endsOf(l)
	for at := range len(b) {
		k := wholeAt(ends, at)
		turned := []byte(b)
		for by := 1; by < 256; by++ {
			turned[at] = b[at] ^ byte(by)
			j, n, err := journal.Open(string(turned))
			if j.Len() != k || n != ends[k] || err == nil || j.Bytes() != b[:n] {
				t.Fatalf("J4: with the byte at %d turned by %d Open tells %d entries, %d, %v", at, by, j.Len(), n, err)
			}
		}
		opens(t, string(turned), ends[k], l[:k])
	}
	r := rand.New(rand.NewSource(2306))
	for range 200 {
		l := append(someEntries(r, 6), tick(r.Intn(9)))
		b, ends := []byte(made(t, l...).Bytes()), endsOf(l)
		at := r.Intn(len(b))
		b[at] ^= byte(1 + r.Intn(255))
		k := wholeAt(ends, at)
		opens(t, string(b), ends[k], l[:k])
	}
}

// TestOtherOrders: records that stand elsewhere than they must are none, whole as they are.
func TestOtherOrders(t *testing.T) {
	l := several()
	ends, b := endsOf(l), journalBytes(l)
	for k := range l {
		record := b[ends[k]:ends[k+1]]
		opens(t, b[:ends[k+1]]+record, ends[k+1], l[:k+1])
		if k > 0 {
			opens(t, b[ends[k]:], 0, nil)
			opens(t, b[:ends[k-1]]+b[ends[k]:], ends[k-1], l[:k-1])
			opens(t, b[:ends[k-1]]+record+b[ends[k-1]:], ends[k-1], l[:k-1])
		}
	}
}

// TestBent: journals that are changed in some way, also with right sums, held against the second reading.
func TestBent(t *testing.T) {
	r := rand.New(rand.NewSource(2307))
	seen := map[bool]int{}
	for range 20000 {
		var b strings.Builder
		many := r.Intn(4)
		for k := 1; k <= many; k++ {
			body := bodyBytes(someEntry(r))
			if r.Intn(2) == 0 {
				body = bent(r, body)
			}
			b.WriteString(recordBytes(k+max(0, r.Intn(30)-28), body))
		}
		s := b.String()
		if r.Intn(3) == 0 {
			s = bent(r, s)
		}
		l, n := readAll(s)
		j, at, err := journal.Open(s)
		if at != n || j.Len() != len(l) || (err == nil) != (n == len(s)) || j.Bytes() != s[:n] {
			t.Fatalf("J3: Open(%q) tells %d entries, %d, %v; must be %d, %d", s, j.Len(), at, err, len(l), n)
		}
		opens(t, s, n, l)
		seen[n == len(s)]++
	}
	if seen[true] < 3000 || seen[false] < 3000 {
		t.Errorf("of journals that are right the test saw only %d, of others %d", seen[true], seen[false])
	}
}

// bent is bytes with some other ones, more, or less of them.
func bent(r *rand.Rand, s string) string {
	at := r.Intn(len(s) + 1)
	some := string([]byte{byte(oneOf(r, 0, 1, 2, 0x80, 0xff, r.Intn(256)))})
	switch r.Intn(4) {
	case 0:
		return s[:at]
	case 1:
		return s[:at] + some + s[at:]
	case 2:
		return s[:at] + s[min(len(s), at+1):]
	}
	return s[:at] + some + s[min(len(s), at+1):]
}

// TestAppendBehindOpen: also where Open refused what stands behind.
func TestAppendBehindOpen(t *testing.T) {
	for _, behind := range []string{"", "x", "\x00\x00\x00\x07", summed(three)} {
		j, _, _ := journal.Open(journalBytes(several()) + behind)
		appends(t, j, tick(9), with(api.Output{Link: 4}))
		stands(t, j, append(several(), tick(9), with(api.Output{Link: 4})))
	}
}
