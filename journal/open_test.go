package journal_test

import (
	"math"
	"math/rand"
	"runtime"
	"strings"
	"testing"

	"turnstile/api"
	"turnstile/journal"
)

// holdsOpen holds Open of bytes against the second reading: how many entries there are.
func holdsOpen(t *testing.T, b string) int {
	t.Helper()
	l, n := readAll(b)
	opens(t, b, n, l)
	return len(l)
}

// holdsBody holds whether a body is an entry's, in the first record and in one behind another.
func holdsBody(t *testing.T, body string, is bool) {
	t.Helper()
	if _, ok := readBody(body); ok != is {
		t.Fatalf("by the second reading the body %q is an entry's: %v", body, ok)
	}
	one := recordBytes(1, body)
	ahead := recordBytes(1, bodyBytes(tick(7)))
	two := ahead + recordBytes(2, body) + recordBytes(3, bodyBytes(tick(8)))
	if !is {
		opens(t, one, 0, nil)
		opens(t, two, len(ahead), []journal.Entry{tick(7)})
		return
	}
	e, _ := readBody(body)
	opens(t, one, len(one), []journal.Entry{e})
	opens(t, two, len(two), []journal.Entry{tick(7), e, tick(8)})
}

func TestBodiesByHand(t *testing.T) {
	nine := "\xff\xff\xff\xff\xff\xff\xff\xff\xff"
	none := "\x80\x80\x80\x80\x80\x80\x80\x80\x80"
	for body, is := range map[string]bool{
		"\x00\x00\x00\x00\x00":                      true,
		"\x04\x00\x06\x00\x00":                      true,
		"\x7f\x7e\x01\x00\x00":                      true,
		"\x00\x00\x00\x04ab\x00":                    true,
		"\x00\x00\x00\x00\x02\x00\x00\x00\x00\x00":  true,
		"\x00\x00\x00\x00\x02\x01\x03\x05\x07\x02z": true,
		"\x80\x01\x00\x00\x00\x00":                  true,
		nine + "\x01\x00\x00\x00\x00":               true,
		"\x00" + none + "\x01\x00\x00\x00":          true,
		"\x00\x00\xfe" + nine[1:] + "\x01\x00\x00":  true,
		"":                         false,
		"\x00":                     false,
		"\x00\x00\x00\x00":         false, // it ends too early
		"\x00\x00\x00\x00\x80":     false,
		"\x00\x00\x00\x00\x00\x00": false, // something is left over
		"\x00\x00\x00\x00\x02\x00\x00\x00\x00\x00\x00": false,
		"\x00\x00\x00\x00\x02\x00\x00\x00\x00":         false, // an output that is not whole
		"\x00\x00\x00\x00\x02":                         false,
		"\x00\x00\x00\x00\x04\x00\x00\x00\x00\x00":     false, // one output, where two are told
		"\x00\x00\x00\x00\x01":                         false, // less outputs than none
		"\x00\x00\x00\x00\x01\x00\x00\x00\x00\x00":     false,
		"\x00\x00\x00\x01\x00":                         false, // a text with less bytes than none
		"\x00\x00\x00\x03\x00":                         false,
		"\x00\x00\x00\x02":                             false,
		"\x00\x00\x00\x04a\x00":                        false, // what tells the outputs is a byte of the text
		"\x00\x00\x00\x06a\x00":                        false, // a text with more bytes than there are
		"\x80\x00\x00\x00\x00\x00":                     false, // more bytes than the number needs
		"\x84\x00\x00\x06\x00\x00":                     false,
		"\x00\x00\x00\x80\x00\x00":                     false,
		"\x00\x00\x00\x00\x80\x00":                     false,
		"\x00\x00\x00\x82\x00a\x00":                    false,
		"\x80\x80\x01\x00\x00\x00\x00":                 true,
		"\x80\x80\x00\x00\x00\x00\x00":                 false,
		none + "\x00\x00\x00\x00\x00":                  false,
		nine + "\x00\x00\x00\x00\x00":                  false,
		nine + "\x02\x00\x00\x00\x00":                  false, // it is no int's
		nine + "\x03\x00\x00\x00\x00":                  false,
		nine + "\x7f\x00\x00\x00\x00":                  false,
		none + "\x02\x00\x00\x00\x00":                  false,
		none + "\x7f\x00\x00\x00\x00":                  false,
		nine + "\x81\x00\x00\x00\x00\x00":              false,
		nine + "\x80\x01\x00\x00\x00\x00":              false,
		none + "\x80\x01\x00\x00\x00\x00":              false,
		none + "\x81\x01\x00\x00\x00\x00":              false,
		none + "\x80\x80\x01\x00\x00\x00\x00":          false,
		nine + nine + "\x01\x00\x00\x00\x00":           false,
		nine + "\xff\x01\x00\x00\x00\x00":              false,
		nine:                                           false,
		nine + nine + nine:                             false,
		none:                                           false,
	} {
		holdsBody(t, body, is)
	}
}

// TestNumbersOfBodies: in each place of a number, those that need one byte more, have one too many, or are no int's.
func TestNumbersOfBodies(t *testing.T) {
	parts := []string{"\x02", "\x04", "\x06", "\x02a", "\x04", "\x08", "\x0a", "\x0c", "\x0e", "\x02b", "\x03", "\x05", "\x07", "\x09", "\x00"}
	holdsBody(t, strings.Join(parts, ""), true)
	for i, part := range parts {
		put := func(s string, is bool) {
			l := append([]string(nil), parts...)
			l[i] = s
			holdsBody(t, strings.Join(l, ""), is)
		}
		first, behind := string([]byte{part[0] | 0x80}), part[1:]
		put(first+"\x00"+behind, false)
		put(first+"\x80\x00"+behind, false)
		put(first+strings.Repeat("\x80", 8)+"\x00"+behind, false)
		put(first+strings.Repeat("\x80", 8)+"\x02"+behind, false)
		put(first+strings.Repeat("\x80", 9)+"\x01"+behind, false)
		put("", false)
		if i != 3 && i != 4 && i != 9 && i != 14 { // how many of something there are can't be another number
			for _, n := range edges {
				put(numberBytes(n), true)
			}
		} else {
			for _, n := range edges {
				if n != 0 && n != int(part[0]/2) {
					put(numberBytes(n)+behind, false)
				}
			}
		}
	}
}

// TestSmallBodies: all rows of some bytes, as bodies, held against the second reading.
func TestSmallBodies(t *testing.T) {
	for _, c := range []struct {
		bytes string
		most  int
		least int // of bodies that are an entry's
	}{
		{"\x00\x01\x02\x04\x7f\x80\x81\xffa", 6, 1000},
		{"\x00\x01\x02\x80", 7, 100},
		{"\x00\x02\x80", 10, 500},
		{"\x00\x02", 13, 50},
		{"\x00\x04", 15, 20},
	} {
		right := 0
		var row func(body string)
		row = func(body string) {
			e, ok := readBody(body)
			b := recordBytes(1, body)
			j, n, err := journal.Open(b)
			switch {
			case ok:
				right++
				opens(t, b, len(b), []journal.Entry{e})
			case j.Len() != 0 || n != 0 || err == nil || j.Bytes() != "":
				t.Fatalf("J3: with the body %q Open tells %d entries, %d, %v", body, j.Len(), n, err)
			}
			for i := 0; i < len(c.bytes) && len(body) < c.most; i++ {
				row(body + c.bytes[i:i+1])
			}
		}
		row("")
		if right < c.least {
			t.Errorf("of bodies of %q that are an entry's the test saw only %d", c.bytes, right)
		}
	}
}

// TestNumbersOfRecords: the k-th must have the number k.
func TestNumbersOfRecords(t *testing.T) {
	var l []journal.Entry
	body := bodyBytes(tick(5))
	for k := 1; k <= 300; k++ {
		b := journalBytes(l)
		for _, n := range []int{0, 1, k - 1, k + 1, k + 2, 256 * k, k + 256, k + 1<<16, k + 1<<24, k << 16, k << 24, 1<<32 - 1, 1<<32 - k} {
			if n%(1<<32) != k {
				opens(t, b+recordBytes(n, body), len(b), l)
			}
		}
		if k > 3 && k < 250 {
			l = append(l, tick(5))
			continue
		}
		opens(t, b+recordBytes(k, body), len(b)+17, append(l[:len(l):len(l)], tick(5)))
		l = append(l, tick(5))
	}
}

// TestSizesOfRecords: it must be the body's, whatever the sum says.
func TestSizesOfRecords(t *testing.T) {
	ahead := recordBytes(1, bodyBytes(tick(1)))
	for _, e := range append(several(), event(strings.Repeat("y", 300))) {
		body := bodyBytes(e)
		for _, size := range []int{0, 1, 4, 5, len(body) - 2, len(body) - 1, len(body) + 1, len(body) + 2, len(body) + 3, len(body) + 4, len(body) + 5, len(body) + 8, len(body) + 256, len(body) << 8, len(body) + 1<<24, 1 << 31, 1<<31 - 1, 1<<32 - 1, 1<<32 - 8, 1<<32 - 12} {
			b := summed(four(2) + four(size) + body)
			if size == len(body) {
				continue
			}
			for _, behind := range []string{"", "\x00", ahead, strings.Repeat("\x00", 400)} {
				opens(t, ahead+b+behind, len(ahead), []journal.Entry{tick(1)})
			}
		}
		for size := range len(body) { // the sum stands where the size says, of a body that is not whole
			b := summed(four(2) + four(size) + body[:size])
			opens(t, ahead+b+body[size:], len(ahead), []journal.Entry{tick(1)})
		}
	}
}

// TestSumsOfRecords: each bit of them counts, and each byte of what they are of.
func TestSumsOfRecords(t *testing.T) {
	ahead := recordBytes(1, bodyBytes(tick(1)))
	for _, e := range several() {
		b := recordBytes(2, bodyBytes(e))
		head, sum := b[:len(b)-4], b[len(b)-4:]
		for bit := range 32 {
			wrong := []byte(sum)
			wrong[bit/8] ^= 1 << (bit % 8)
			opens(t, ahead+head+string(wrong), len(ahead), []journal.Entry{tick(1)})
		}
		for _, wrong := range []string{"\x00\x00\x00\x00", "\xff\xff\xff\xff", sum[3:] + sum[2:3] + sum[1:2] + sum[:1], four(int(journal.Sum(head[4:]))), four(int(journal.Sum(head[8:]))), four(int(^journal.Sum(head))), four(int(journal.Sum(ahead + head)))} {
			opens(t, ahead+head+wrong, len(ahead), []journal.Entry{tick(1)})
		}
	}
}

// TestGreatestBody: a body of just as many bytes as may be is taken, one of more is not, though all is right with it otherwise.
func TestGreatestBody(t *testing.T) {
	long := strings.Repeat("z", mostBody)
	ahead := recordBytes(1, bodyBytes(tick(1)))
	for _, of := range []func(string) journal.Entry{event, func(s string) journal.Entry { return with(api.Output{At: 3, Bytes: s}) }} {
		free := mostBody - len(bodyBytes(of(long))) + len(long)
		e := of(long[:free])
		b := ahead + recordBytes(2, bodyBytes(e))
		if len(b) != 17+8+mostBody+4 {
			t.Fatalf("the test's journal has %d bytes", len(b))
		}
		opens(t, b, len(b), []journal.Entry{tick(1), e})
		for _, more := range []int{1, 2} {
			body := bodyBytes(of(long[:free] + "zz"[:more]))
			opens(t, ahead+recordBytes(2, body), 17, []journal.Entry{tick(1)})
		}
	}
	many := with(make([]api.Output, 1999999)...)
	if n := len(bodyBytes(many)); n <= mostBody || n > mostBody+5 {
		t.Fatalf("the test's body has %d bytes", n)
	}
	opens(t, recordBytes(1, bodyBytes(many)), 0, nil)
}

// TestTooMany: texts and outputs of which many are told, and few or none are there: they take neither long nor much memory.
func TestTooMany(t *testing.T) {
	for _, n := range []int{2, 1000, 1 << 20, 1 << 31, 1 << 40, 1 << 62, math.MaxInt - 1, math.MaxInt} {
		for _, behind := range []string{"", "\x00", "\x00\x00\x00\x00\x00", strings.Repeat("\x00", 1000)} {
			for _, body := range []string{
				"\x00\x00\x00" + numberBytes(n) + behind,
				"\x00\x00\x00\x00" + numberBytes(n) + behind,
				"\x00\x00\x00\x00\x02\x00\x00\x00\x00" + numberBytes(n) + behind,
				"\x00\x00\x00\x00" + numberBytes(-n) + behind,
				"\x00\x00\x00" + numberBytes(-n) + behind,
				"\x00\x00\x00\x00\x02\x00\x00\x00\x00" + numberBytes(-n) + behind,
			} {
				var before, after runtime.MemStats
				runtime.ReadMemStats(&before)
				is := holdsOpen(t, recordBytes(1, body))
				runtime.ReadMemStats(&after)
				if used := after.TotalAlloc - before.TotalAlloc; used > 10_000_000 {
					t.Errorf("P1: Open of %d bytes took %d bytes", len(body)+12, used)
				}
				if is == 1 && n > 1000 {
					t.Errorf("J3: a body with %d of something was taken", n)
				}
			}
		}
	}
}

// TestAnyBytes: none of these is a journal, or just its beginning is.
func TestAnyBytes(t *testing.T) {
	r := rand.New(rand.NewSource(2303))
	for _, b := range []string{"x", "\x00", "\x00\x00\x00\x01", "\x00\x00\x00\x01\x00\x00\x00\x05", "\x00\x00\x00\x01\x00\x00\x00\x00\x00\x00\x00\x00", strings.Repeat("\x00", 1000), strings.Repeat("\xff", 1000), strings.Repeat("\x00\x00\x00\x01", 1000), "journal\n", summed(""), summed("\x00\x00\x00\x01"), recordBytes(1, ""), summed(three)[1:]} {
		if n := holdsOpen(t, b); n != 0 {
			t.Errorf("J3: Open(%q) tells %d entries", b, n)
		}
	}
	for range 3000 {
		b := make([]byte, r.Intn(60))
		r.Read(b)
		holdsOpen(t, string(b))
		holdsOpen(t, summed(four(1)+four(len(b))+string(b)))
		holdsOpen(t, journalBytes(several())+string(b))
	}
}
