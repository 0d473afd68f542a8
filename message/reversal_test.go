package message_test

import (
	"math/rand"
	"strings"
	"testing"

	"turnstile/api"
	"turnstile/message"
)

func originalMust(t *testing.T, m api.Message) api.Errno {
	t.Helper()
	want, e := originalIs(m)
	if got, g := message.Original(m); got != want || g != e {
		t.Errorf("G7: Original(%.300s) = %q, %d, must be %q, %d", seen(m), got, g, want, e)
	}
	return e
}

func reversalMust(t *testing.T, m api.Message, number, stamp string) api.Errno {
	t.Helper()
	want, e := reversalIs(m, number, stamp)
	got, g := message.Reversal(m, number, stamp)
	if g != e || seen(got) != seen(want) {
		t.Errorf("G8: Reversal(%.300s, %q, %q) = %.300s, %d, must be %.300s, %d", seen(m), number, stamp, seen(got), g, seen(want), e)
	}
	return e
}

func TestOriginalOfTheExamples(t *testing.T) {
	m := of("0200", field(7, "0229123456"), field(11, "12"))
	if got, e := message.Original(m); got != "020000001202291234560000000000000000000000" || e != api.OK {
		t.Errorf("G7: Original = %q, %d", got, e)
	}
	if got, e := message.Original(of("0200", field(11, "12"))); got != "" || e != api.ErrMust {
		t.Errorf("G7: Original without field 7 = %q, %d", got, e)
	}
}

// values are digits of each length up to 13, and what is no digits.
func values() []string {
	l := []string{"a", "1a", "a1", " 1", "1 ", "-1", "+1", "1.", "٣", "1\x00", "/", ":", "1/", "1:", strings.Repeat("0", 300)}
	for n := range 14 {
		l = append(l, strings.Repeat("9", n), strings.Repeat("0", n), strings.Repeat("1", n/2)+strings.Repeat("0", n-n/2))
	}
	return l
}

func TestOriginalByValues(t *testing.T) {
	for _, v := range values() {
		originalMust(t, of("0200", field(7, v), field(11, "1")))
		originalMust(t, of("1100", field(7, "1"), field(11, v)))
		originalMust(t, of("0200", field(7, "1"), field(11, "1"), field(32, v)))
		originalMust(t, of("0200", field(7, v), field(11, v), field(32, v)))
		originalMust(t, of("0200", field(7, v)))
		originalMust(t, of("0200", field(11, v), field(32, v)))
	}
	for _, n := range []int{7, 11, 32} {
		f := kids(n, leaf(1, "1"))
		originalMust(t, laid(of("0200", field(7, "1"), field(11, "1"), field(32, "1")), f))
		originalMust(t, of("0200", f))
	}
}

func TestOriginalByType(t *testing.T) {
	for _, s := range append(allTypes(), "0400", "", "0111", "2100") {
		for _, m := range []api.Message{of(s), all(s), of(s, field(7, "1"), field(11, "2")), of(s, field(11, "1"), field(7, "2")), of(s, field(7, "x")), of(s, field(1, ""))} {
			originalMust(t, m)
			reversalMust(t, m, "000009", "0301000000")
			reversalMust(t, m, "9", "0301000000")
		}
	}
}

func TestReversalByArguments(t *testing.T) {
	m := of("1100", field(2, "4"), field(7, "0229123456"), field(11, "12"), field(38, "a"), field(39, "b"), field(52, "c"))
	got, e := message.Reversal(m, "000009", "0301000000")
	messageIs(t, "G8: Reversal", got, of("1420", field(2, "4"), field(7, "0301000000"), field(11, "000009"), field(38, "a"), field(90, "110000001202291234560000000000000000000000")))
	if e != api.OK {
		t.Errorf("G8: Reversal = %d", e)
	}
	for _, v := range append(values(), "00000a", "a00000", "000000000a", "a000000000", "00000٣", "00000/", "00000:", "/00000", ":00000") {
		reversalMust(t, m, v, "0301000000")
		reversalMust(t, m, "000009", v)
		reversalMust(t, m, v, v)
	}
}

func TestReversalByFields(t *testing.T) {
	must := []api.Field{field(7, "1"), field(11, "1")}
	for _, f := range all("").Fields {
		reversalMust(t, laid(of("0200", must...), f), "000009", "0301000000")
		reversalMust(t, laid(of("0121", must...), kids(f.Number, nested(3)...)), "000009", "0301000000")
		reversalMust(t, message.Without(all("1220"), f.Number), "000009", "0301000000")
	}
}

func TestReversalOfMany(t *testing.T) {
	r := rand.New(rand.NewSource(1111))
	counts := map[api.Errno]int{}
	for _, m := range someMessages(1112, 2500) {
		originalMust(t, m)
		counts[reversalMust(t, m, oneOf(r, "000009", "123456", "999999", "12345"), oneOf(r, "0301000000", "1231235959", "x"))]++
	}
	if len(counts) != 5 || counts[api.OK] < 300 {
		t.Errorf("the test had %v only", counts)
	}
}

// TestReversalRefuses: of several errors the first one is told.
func TestReversalRefuses(t *testing.T) {
	for _, s := range []string{"0100", "0110", "0420", "0800", "0500", "0400"} {
		for _, l := range [][]api.Field{nil, {field(1, "")}, {field(11, "1"), field(7, "1")}, {field(7, "x")}, {field(11, "1")}, {field(7, "1"), field(11, "x")}, {field(7, "1"), field(11, "1")}} {
			for _, number := range []string{"", "000009"} {
				for _, stamp := range []string{"", "0301000000"} {
					reversalMust(t, of(s, l...), number, stamp)
				}
			}
		}
	}
}
