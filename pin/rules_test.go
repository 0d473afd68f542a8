package pin_test

import (
	"math"
	"math/rand"
	"slices"
	"strings"
	"testing"
	"unsafe"

	"turnstile/api"
	"turnstile/pin"
)

// someTexts are right ones and wrong ones, short and long, and any bytes.
func someTexts() []string {
	l := []string{"", "0", "1234", "1", "6", "AAAAAAAAAA", "0123456789", somePAN, someKey, "\x00", "\xFF", "8 bytes.", "\x04\x12\xAC\x89\xAB\xCD\xEF\x67", "\x14\x12\x34\x01\x23\x45\x67\x89", strings.Repeat("9", 100000), strings.Repeat("\xFF", 100000)}
	r := rand.New(rand.NewSource(71))
	for n := range 20 {
		l = append(l, randomText(r, n))
	}
	return l
}

func nothingBeside(t *testing.T, name, got string, e api.Errno) {
	t.Helper()
	if (e == api.OK) != (got != "") {
		t.Errorf("P2: %s = %X, %d", name, got, e)
	}
}

// TestEveryCallAnswers: no call panics, and beside an error there is nothing.
func TestEveryCallAnswers(t *testing.T) {
	texts := someTexts()
	for _, format := range []int{math.MinInt, -1, 0, 1, 2, 3, 15, 16, math.MaxInt} {
		for _, a := range texts {
			for _, b := range texts {
				got, e := pin.Open(format, a, b)
				nothingBeside(t, "Open", got, e)
				got, e = pin.Unseal(someKey, format, a, b)
				nothingBeside(t, "Unseal", got, e)
				got, e = pin.Move(a, b, format, format, "8 bytes.", somePAN, "")
				nothingBeside(t, "Move", got, e)
				for _, c := range texts {
					got, e = pin.Block(format, a, b, c)
					nothingBeside(t, "Block", got, e)
					got, e = pin.Seal(someKey, format, a, b, c)
					nothingBeside(t, "Seal", got, e)
				}
			}
		}
	}
	for _, a := range texts {
		for _, b := range texts {
			for _, c := range texts {
				got, e := pin.Value(someKey, a, b, c)
				nothingBeside(t, "Value", got, e)
				got, e = pin.Value(a, somePAN, b, c)
				nothingBeside(t, "Value", got, e)
			}
		}
	}
}

// TestAnswersAreNewMemory: also where what comes is, byte by byte, what was handed in.
func TestAnswersAreNewMemory(t *testing.T) {
	p, pan, fill, key := strings.Clone("1234"), strings.Clone(somePAN), strings.Clone("ABCDEFABCD"), strings.Clone(someKey)
	for _, format := range formats() {
		f := fill
		if format == 0 {
			f = ""
		}
		block, _ := pin.Block(format, p, pan, f)
		apart(t, "Block", block, p, pan, f)
		got, _ := pin.Open(format, block, pan)
		apart(t, "Open", got, block, pan, p)
		again, _ := pin.Open(format, block, pan)
		apart(t, "Open", again, got)
		sealed, _ := pin.Seal(key, format, p, pan, f)
		apart(t, "Seal", sealed, key, p, pan, f)
		got, _ = pin.Unseal(key, format, sealed, pan)
		apart(t, "Unseal", got, key, sealed, pan)
		moved, _ := pin.Move(key, key, format, format, sealed, pan, f)
		apart(t, "Move", moved, key, sealed, pan, f)
		if moved != sealed {
			t.Errorf("6.4: Move under the same key, of the same filling = %X, was %X", moved, sealed)
		}
	}
	one, _ := pin.Value(key, pan, "1", p)
	two, _ := pin.Value(key, pan, "1", p)
	apart(t, "Value", one, two, key, pan, p)
}

func apart(t *testing.T, name, got string, others ...string) {
	t.Helper()
	if got == "" {
		t.Errorf("P3: %s answers nothing", name)
	}
	from := uintptr(unsafe.Pointer(unsafe.StringData(got)))
	for _, o := range others {
		at := uintptr(unsafe.Pointer(unsafe.StringData(o)))
		if from < at+uintptr(len(o)) && at < from+uintptr(len(got)) {
			t.Errorf("P3: %s answers memory that is another's: %q, %q", name, got, o)
		}
	}
}

// TestSameAgain: the same arguments give the same answers, whatever was asked between: nothing is kept.
func TestSameAgain(t *testing.T) {
	texts := someTexts()
	answers := func() (l []string) {
		for _, a := range texts {
			for _, format := range formats() {
				block, e := pin.Block(format, a, somePAN, "AAAAAAAAAA")
				opened, f := pin.Open(format, a, somePAN)
				sealed, g := pin.Seal(someKey, format, "1234", somePAN, a)
				moved, h := pin.Move(other, someKey, format, 0, a, somePAN, "")
				l = append(l, block, e.Error(), opened, f.Error(), sealed, g.Error(), moved, h.Error())
			}
			value, e := pin.Value(someKey, somePAN, "1", a)
			l = append(l, value, e.Error())
		}
		return l
	}
	if first := answers(); !slices.Equal(first, answers()) {
		t.Error("P4: the same calls answer another thing once more")
	}
}
