package money_test

import (
	"fmt"
	"math"
	"math/rand"
	"slices"
	"strings"
	"testing"
	"unsafe"

	"turnstile/api"
	"turnstile/money"
)

// someTexts are right ones and wrong ones, short and long, and any bytes.
func someTexts() []string {
	l := append(wrongCurrencies(), "840", "392", "048", "0", "1.00", "12.345", "00000001", "10000005", "80000001", "00000000", ".", "\x00", strings.Repeat("9", 100000), strings.Repeat("\xFF", 100000))
	r := rand.New(rand.NewSource(84))
	for n := range 20 {
		b := make([]byte, n)
		r.Read(b)
		l = append(l, string(b))
	}
	return l
}

func someUnits() []int {
	return append(wrongUnits(), 0, 1, 5, 100, most, 1000000, 1000001)
}

func nothingBeside(t *testing.T, name string, nothing bool, e api.Errno) {
	t.Helper()
	if e != api.OK && !nothing {
		t.Errorf("P2: %s answers something beside the error %d", name, e)
	}
}

// TestEveryCallAnswers: no call panics, and beside an error there is nothing.
func TestEveryCallAnswers(t *testing.T) {
	texts := someTexts()
	for _, a := range texts {
		n, e := money.Places(a)
		nothingBeside(t, "Places", n == 0, e)
		for _, b := range texts {
			n, e = money.Read(a, b)
			nothingBeside(t, "Read", n == 0, e)
			n, e = money.Convert(100, a, "840", b)
			nothingBeside(t, "Convert", n == 0, e)
		}
		for _, units := range someUnits() {
			s, e := money.Show(units, a)
			nothingBeside(t, "Show", s == "", e)
			n, e = money.Convert(units, "392", "048", a)
			nothingBeside(t, "Convert", n == 0, e)
		}
	}
	for _, a := range someUnits() {
		for _, b := range someUnits() {
			for _, c := range someUnits() {
				n, e := money.Sum(a, b, c)
				nothingBeside(t, "Sum", n == 0, e)
				l, e := money.Share(a, b, c)
				nothingBeside(t, "Share", len(l) == 0, e)
			}
		}
	}
}

// TestArgumentsStayAsTheyAre: nor is what stands behind them in their array written into.
func TestArgumentsStayAsTheyAre(t *testing.T) {
	array := []int{3, 1, 2, 0, 2, 77, 78, 79}
	was := slices.Clone(array)
	for n := range 6 {
		money.Share(1000, array[:n]...)
		money.Share(-1, array[:n]...)
		money.Sum(array[:n]...)
		if !slices.Equal(array, was) {
			t.Fatalf("P3: a list that was handed in became %v", array)
		}
	}
}

// TestSharesAreNewMemory: neither the weights nor another answer is changed by what is written into one.
func TestSharesAreNewMemory(t *testing.T) {
	weights := []int{1, 1, 1}
	one, _ := money.Share(3, weights...)
	two, _ := money.Share(3, weights...)
	whole := one[:cap(one)]
	for i := range whole {
		whole[i] = -5
	}
	if !slices.Equal(weights, []int{1, 1, 1}) || !slices.Equal(two, []int{1, 1, 1}) {
		t.Errorf("P3: after writing into an answer: %v, %v", weights, two)
	}
	weights[0] = 9
	if !slices.Equal(two, []int{1, 1, 1}) {
		t.Errorf("P3: after writing into what was handed in: %v", two)
	}
}

// TestTextsAreNewMemory: no text that is answered stands in one that was handed in.
func TestTextsAreNewMemory(t *testing.T) {
	currency := strings.Clone("840")
	s, _ := money.Show(84000, currency)
	apart(t, "Show", s, currency)
	whole := strings.Clone("392")
	s, _ = money.Show(392, whole)
	apart(t, "Show", s, whole)
}

func apart(t *testing.T, name, got string, others ...string) {
	t.Helper()
	if got == "" {
		t.Errorf("P3: %s answers nothing", name)
	}
	from := uintptr(unsafe.Pointer(unsafe.StringData(got)))
	for _, o := range others {
		at := uintptr(unsafe.Pointer(unsafe.StringData(o)))
		if from < at+uintptr(len(o)) && at < from+uintptr(len(got)) {
			t.Errorf("P3: %s answers memory that is another's: %q, %q", name, got, o)
		}
	}
}

// TestSameAgain: the same arguments give the same answers, whatever was asked between: nothing is kept.
func TestSameAgain(t *testing.T) {
	texts := someTexts()
	answers := func() (l []string) {
		for _, a := range texts {
			for _, units := range []int{0, 12345, most, math.MaxInt} {
				shown, e := money.Show(units, a)
				turned, f := money.Convert(units, "840", "392", a)
				l = append(l, fmt.Sprint(shown, e, turned, f))
			}
			n, e := money.Read(a, "840")
			places, f := money.Places(a)
			shares, g := money.Share(len(a), 1, len(a), 2)
			total, h := money.Sum(len(a), 7)
			l = append(l, fmt.Sprint(n, e, places, f, shares, g, total, h, slices.Collect(money.Currencies())))
		}
		return l
	}
	first := answers()
	for range 5 {
		if !slices.Equal(first, answers()) {
			t.Fatal("P4: the same calls answer another thing once more")
		}
	}
}
