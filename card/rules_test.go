package card_test

import (
	"math"
	"math/rand"
	"slices"
	"strings"
	"testing"
	"unsafe"

	"turnstile/api"
	"turnstile/card"
)

// someTexts are right ones and wrong ones, short and long, and any bytes.
func someTexts() []string {
	l := []string{"", "0", "=", "\x00", "\xFF", "3012", "41===", "4111111111111111", "4111111111111111=30122011234", strings.Repeat("9", 100000), strings.Repeat("=", 100000), strings.Repeat("\xFF", 100000)}
	r := rand.New(rand.NewSource(10))
	for n := range 60 {
		b := make([]byte, n)
		r.Read(b)
		l = append(l, string(b), randomDigits(r, n), randomTrack(r))
	}
	return l
}

// TestEveryCallAnswers: no call panics, and beside an error there is nothing but the place, which lies within what was read.
func TestEveryCallAnswers(t *testing.T) {
	numbers := []int{math.MinInt, -1, 0, 1, 12, 13, 1999, 2000, 2099, 2100, math.MaxInt}
	for _, s := range someTexts() {
		card.Luhn(s)
		card.Right(s)
		card.Mask(s)
		if d, e := card.Digit(s); e != api.OK && d != "" {
			t.Errorf("P2: Digit(%q) = %q, %d", s, d, e)
		}
		if x, e, at := card.ReadTrack(s); e != api.OK && x != (api.Track{}) || at < 0 || at > len(s) || at > api.MaxTrack {
			t.Errorf("P2: ReadTrack(%q) = %q, %d, %d", s, x, e, at)
		}
		for _, x := range []api.Track{{PAN: s}, {PAN: "1", Expiry: s}, {PAN: "1", Service: s}, {PAN: "1", Rest: s}, {PAN: s, Expiry: s, Service: s, Rest: s}} {
			if w, e := card.WriteTrack(x); e != api.OK && w != "" {
				t.Errorf("P2: WriteTrack(%q) = %q, %d", x, w, e)
			}
		}
		for _, n := range numbers {
			m := api.Message{MTI: s, Fields: []api.Field{field(n, s), field(35, s)}}
			card.Number(m)
			card.Expiry(m)
			for _, o := range numbers {
				if over, e := card.Expired(s, n, o); e != api.OK && over {
					t.Errorf("P2: Expired(%q, %d, %d) = true, %d", s, n, o, e)
				}
			}
		}
	}
}

// TestAnswersAreNewMemory: also where what comes is, byte by byte, what was handed in.
func TestAnswersAreNewMemory(t *testing.T) {
	s := strings.Clone("4111111111111111=30122011234")
	x, _, _ := card.ReadTrack(s)
	for _, part := range []string{x.PAN, x.Expiry, x.Service, x.Rest} {
		apart(t, "ReadTrack", part, s)
	}
	w, _ := card.WriteTrack(x)
	apart(t, "WriteTrack", w, s, x.PAN, x.Expiry, x.Service, x.Rest)
	digits, stars := s[:15], strings.Clone("***********")
	d, _ := card.Digit(digits)
	apart(t, "Digit", d, s)
	apart(t, "Mask", card.Mask(stars), stars)
	apart(t, "Mask", card.Mask(stars[1:]), stars)
	whole := api.Message{Fields: []api.Field{field(2, s[:16]), field(14, s[17:21])}}
	apart(t, "Number", card.Number(whole), s)
	apart(t, "Expiry", card.Expiry(whole), s)
	track := api.Message{Fields: []api.Field{field(35, s)}}
	apart(t, "Number", card.Number(track), s)
	apart(t, "Expiry", card.Expiry(track), s)
}

func apart(t *testing.T, name, got string, others ...string) {
	t.Helper()
	from := uintptr(unsafe.Pointer(unsafe.StringData(got)))
	for _, o := range others {
		at := uintptr(unsafe.Pointer(unsafe.StringData(o)))
		if from < at+uintptr(len(o)) && at < from+uintptr(len(got)) {
			t.Errorf("P3: %s answers memory that is another's: %q, %q", name, got, o)
		}
	}
}

// TestMessagesStayAsTheyAre: the fields, and what stands behind them.
func TestMessagesStayAsTheyAre(t *testing.T) {
	all := []api.Field{field(35, "41=3012201"), field(14, "3011"), field(2, "4111"), field(2, "behind")}
	plain := func(a, b api.Field) bool { return a.Number == b.Number && a.Value == b.Value && a.Kids == nil }
	before := slices.Clone(all)
	for n := range all {
		m := api.Message{MTI: "0200", Fields: all[:n]}
		card.Number(m)
		card.Expiry(m)
	}
	if !slices.EqualFunc(all, before, plain) {
		t.Errorf("P3: the fields are %v now", all)
	}
}

// TestSameAgain: the same arguments give the same answers, whatever was asked between.
func TestSameAgain(t *testing.T) {
	texts := someTexts()
	answers := func() (l []string) {
		for _, s := range texts {
			x, e, at := card.ReadTrack(s)
			d, _ := card.Digit(s)
			l = append(l, x.PAN, x.Expiry, x.Service, x.Rest, e.Error(), string(rune(at)), d, card.Mask(s), card.Right(s).Error())
		}
		return l
	}
	if first := answers(); !slices.Equal(first, answers()) {
		t.Error("P4: the same calls answer another thing once more")
	}
}
