package clock_test

import (
	"fmt"
	"math"
	"math/rand"
	"slices"
	"strings"
	"testing"
	"unsafe"

	"turnstile/api"
	"turnstile/clock"
)

// someTexts are right ones and wrong ones, short and long, and any bytes.
func someTexts() []string {
	l := []string{"", "0", "2402", "0001", "9912", "2413", "0101000000", "0229123456", "1231235959", "0230000000", "\x00", strings.Repeat("0", 100000), strings.Repeat("\xFF", 100000)}
	r := rand.New(rand.NewSource(94))
	for n := range 20 {
		b := make([]byte, n)
		r.Read(b)
		l = append(l, string(b))
	}
	return l
}

func someNumbers() []int {
	return append(append(wrongMoments(), wrongHours()...), 0, 1, 12, 23, 59, 60, day-1, day, 762525296, most-day, most)
}

func nothingBeside(t *testing.T, name string, nothing bool, e api.Errno) {
	t.Helper()
	if e != api.OK && !nothing {
		t.Errorf("P2: %s answers something beside the error %d", name, e)
	}
}

// TestEveryCallAnswers: no call panics, and beside an error there is nothing.
func TestEveryCallAnswers(t *testing.T) {
	for _, a := range someNumbers() {
		clock.Leap(a)
		d, e := clock.Date(a)
		nothingBeside(t, "Date", d == api.Date{}, e)
		n, e := clock.Weekday(a)
		nothingBeside(t, "Weekday", n == 0, e)
		s, e := clock.Stamp(a)
		nothingBeside(t, "Stamp", s == "", e)
		s, e = clock.Julian(a)
		nothingBeside(t, "Julian", s == "", e)
		for _, b := range someNumbers() {
			s, e = clock.Business(a, b)
			nothingBeside(t, "Business", s == "", e)
			n, e = clock.Of(api.Date{Year: a, Month: b, Day: a, Hour: b, Minute: a, Second: b})
			nothingBeside(t, "Of", n == 0, e)
			n, e = clock.Of(api.Date{Year: 2024, Month: a, Day: b})
			nothingBeside(t, "Of", n == 0, e)
		}
		for _, text := range someTexts() {
			n, e = clock.Near(text, a)
			nothingBeside(t, "Near", n == 0, e)
		}
	}
	for _, text := range someTexts() {
		n, e := clock.Last(text)
		nothingBeside(t, "Last", n == 0, e)
	}
}

// TestTextsAreNewMemory: no two texts that are answered share any.
func TestTextsAreNewMemory(t *testing.T) {
	for _, moment := range []int{0, 762525296, most - day} {
		one, _ := clock.Stamp(moment)
		two, _ := clock.Stamp(moment)
		apart(t, "Stamp", one, two)
		one, _ = clock.Julian(moment)
		two, _ = clock.Julian(moment)
		apart(t, "Julian", one, two)
		one, _ = clock.Business(moment, 5)
		two, _ = clock.Business(moment, 5)
		apart(t, "Business", one, two)
	}
}

func apart(t *testing.T, name, got string, others ...string) {
	t.Helper()
	if got == "" {
		t.Errorf("P3: %s answers nothing", name)
	}
	from := uintptr(unsafe.Pointer(unsafe.StringData(got)))
	for _, o := range others {
		at := uintptr(unsafe.Pointer(unsafe.StringData(o)))
		if from < at+uintptr(len(o)) && at < from+uintptr(len(got)) {
			t.Errorf("P3: %s answers memory that is another's: %q, %q", name, got, o)
		}
	}
}

// TestSameAgain: the same arguments give the same answers, whatever was asked between: nothing is kept, and no clock is asked.
func TestSameAgain(t *testing.T) {
	answers := func() (l []string) {
		for _, moment := range someNumbers() {
			d, e := clock.Date(moment)
			w, f := clock.Weekday(moment)
			s, g := clock.Stamp(moment)
			j, h := clock.Julian(moment)
			l = append(l, fmt.Sprint(clock.Leap(moment), d, e, w, f, s, g, j, h))
			for _, hour := range []int{0, 5, 23, 24, math.MaxInt} {
				b, e := clock.Business(moment, hour)
				n, f := clock.Of(api.Date{Year: 2024, Month: 2, Day: 29, Hour: hour, Second: moment})
				l = append(l, fmt.Sprint(b, e, n, f))
			}
			for _, text := range someTexts() {
				n, e := clock.Near(text, moment)
				last, f := clock.Last(text)
				l = append(l, fmt.Sprint(n, e, last, f))
			}
		}
		return l
	}
	first := answers()
	for range 5 {
		if !slices.Equal(first, answers()) {
			t.Fatal("P4: the same calls answer another thing once more")
		}
	}
}
