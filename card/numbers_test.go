package card_test

import (
	"math/rand"
	"strconv"
	"strings"
	"testing"

	"turnstile/api"
	"turnstile/card"
)

// isDigits is read from the chapter's words.
func isDigits(s string) bool { return strings.Trim(s, "0123456789") == "" }

// isBalanced reckons the sum from the last digit on, in turns: a plain second reading of the chapter.
func isBalanced(digits string) bool {
	sum, double := 0, false
	for i := len(digits) - 1; i >= 0; i-- {
		d, _ := strconv.Atoi(digits[i : i+1])
		if double {
			if d *= 2; d >= 10 {
				d -= 9
			}
		}
		sum += d
		double = !double
	}
	return sum%10 == 0
}

// randomDigits are so many.
func randomDigits(r *rand.Rand, n int) string {
	b := make([]byte, n)
	for i := range b {
		b[i] = '0' + byte(r.Intn(10))
	}
	return string(b)
}

// balancedDigits are so many, and balanced, by trying each last digit.
func balancedDigits(r *rand.Rand, n int) string {
	ahead := randomDigits(r, n-1)
	for d := '0'; ; d++ {
		if s := ahead + string(d); isBalanced(s) {
			return s
		}
	}
}

// notDigits are bytes at the edges of the digits, and such as are digits elsewhere.
var notDigits = []string{"/", ":", " ", "=", "-", "+", ".", "a", "A", "\x00", "\x09", "\x80", "\xB1", "\xF0", "\xFF", "\u0661", "\uFF11"}

func TestLuhnExamples(t *testing.T) {
	for s, want := range map[string]bool{
		"4111111111111111": true, "4111111111111112": false, "0": false, "": false, "41 1": false, "00": true,
		"5": false, "9": false, "18": true, "26": true, "34": true, "42": true, "59": true, "67": true, "75": true, "83": true, "91": true,
		"79927398713": true, "79927398710": false, "5555555555554444": true, "378282246310005": true, "018": true, "0018": true, "180": false,
	} {
		if card.Luhn(s) != want {
			t.Errorf("C1: Luhn(%q) = %t", s, !want)
		}
	}
}

// TestLuhnOfShortTexts: all digits up to four.
func TestLuhnOfShortTexts(t *testing.T) {
	for width := 1; width <= 4; width++ {
		for n := range 10000 {
			s := strconv.Itoa(n)
			if len(s) > width {
				break
			}
			s = strings.Repeat("0", width-len(s)) + s
			if want := width > 1 && isBalanced(s); card.Luhn(s) != want {
				t.Errorf("C1: Luhn(%q) = %t", s, !want)
			}
		}
	}
}

// TestLuhnOfLongTexts: there is no bound above, and what is far longer than a card number is reckoned alike.
func TestLuhnOfLongTexts(t *testing.T) {
	r := rand.New(rand.NewSource(1))
	for _, n := range []int{5, 18, 19, 20, 21, 37, 255, 256, 257, 1000, 70001} {
		for range 50 {
			s := randomDigits(r, n)
			if want := isBalanced(s); card.Luhn(s) != want {
				t.Errorf("C1: Luhn of %d digits = %t", n, !want)
			}
		}
		if !card.Luhn(balancedDigits(r, n)) {
			t.Errorf("C1: Luhn of %d balanced digits = false", n)
		}
	}
	if s := strings.Repeat("59", 2000000); !card.Luhn(s) || card.Luhn(s+"1") {
		t.Error("C1: Luhn of four million digits")
	}
}

// TestOneByteThatIsNoDigit: at each place, of texts that would else be right.
func TestOneByteThatIsNoDigit(t *testing.T) {
	for _, s := range []string{"4111111111111111", "00", "000000000000", "0000000000000000000"} {
		for place := range len(s) {
			for _, c := range notDigits {
				wrong := s[:place] + c + s[place+1:]
				if card.Luhn(wrong) {
					t.Errorf("C1: Luhn(%q) = true", wrong)
				}
				if e := card.Right(wrong); e != api.ErrPAN {
					t.Errorf("C2: Right(%q) = %d", wrong, e)
				}
				if len(wrong) <= 18 {
					if d, e := card.Digit(wrong); d != "" || e != api.ErrPAN {
						t.Errorf("C1: Digit(%q) = %q, %d", wrong, d, e)
					}
				}
			}
		}
	}
}

func TestDigitExamples(t *testing.T) {
	for s, want := range map[string]string{"411111111111111": "1", "0": "0", "1": "8", "5": "9", "9": "1", "7992739871": "3", "000000000000000000": "0", "37828224631000": "5"} {
		if d, e := card.Digit(s); d != want || e != api.OK {
			t.Errorf("C1: Digit(%q) = %q, %d, want %q", s, d, e, want)
		}
	}
}

// TestDigit: of each length, the one digit that makes it balanced; of none and of 19 and more there is none.
func TestDigit(t *testing.T) {
	r := rand.New(rand.NewSource(2))
	for n := range 40 {
		for range 60 {
			s := randomDigits(r, n)
			d, e := card.Digit(s)
			if n < 1 || n > 18 {
				if d != "" || e != api.ErrPAN {
					t.Errorf("C1: Digit(%q) = %q, %d", s, d, e)
				}
				continue
			}
			if len(d) != 1 || !isDigits(d) || !isBalanced(s+d) || e != api.OK {
				t.Errorf("C1: Digit(%q) = %q, %d", s, d, e)
			}
		}
	}
}

func TestRightExamples(t *testing.T) {
	for s, want := range map[string]api.Errno{
		"4111111111111111": api.OK, "5555555555554444": api.OK, "411111111111": api.ErrLuhn, "4111111111111112": api.ErrLuhn,
		"": api.ErrPAN, "00": api.ErrPAN, "00000000000": api.ErrPAN, "000000000000": api.OK, "0000000000000000000": api.OK, "00000000000000000000": api.ErrPAN,
		"11111111111": api.ErrPAN, "11111111111111111111": api.ErrPAN, "4111111111111112 ": api.ErrPAN, " 4111111111111111": api.ErrPAN,
	} {
		if e := card.Right(s); e != want {
			t.Errorf("C2: Right(%q) = %d, want %d", s, e, want)
		}
	}
}

// TestRight: of each length, balanced and not; the length is told first.
func TestRight(t *testing.T) {
	r := rand.New(rand.NewSource(3))
	for n := 1; n < 40; n++ {
		for range 60 {
			for _, s := range []string{randomDigits(r, n), balancedDigits(r, n)} {
				want := api.OK
				if n < 12 || n > 19 {
					want = api.ErrPAN
				} else if !isBalanced(s) {
					want = api.ErrLuhn
				}
				if e := card.Right(s); e != want {
					t.Errorf("C2: Right(%q) = %d, want %d", s, e, want)
				}
			}
		}
	}
}

func TestMaskExamples(t *testing.T) {
	for s, want := range map[string]string{
		"4111111111111111": "411111******1111", "1234567890": "**********", "12345678901": "123456*8901", "123456789012": "123456**9012",
		"": "", "1": "*", "123456": "******", "123456789": "*********", "abcdefghijkl": "abcdef**ijkl", "***********": "***********",
		"\x00\xFF\x80\xC3\xA9\n\x01\x02\x03\x04\x05": "\x00\xFF\x80\xC3\xA9\n*\x02\x03\x04\x05",
	} {
		if got := card.Mask(s); got != want {
			t.Errorf("C2: Mask(%q) = %q, want %q", s, got, want)
		}
	}
}

// TestMask: of each length, byte by byte, of any bytes.
func TestMask(t *testing.T) {
	r := rand.New(rand.NewSource(4))
	for n := range 300 {
		b := make([]byte, n)
		r.Read(b)
		want := make([]byte, n)
		for i := range b {
			want[i] = '*'
			if n > 10 && (i < 6 || i >= n-4) {
				want[i] = b[i]
			}
		}
		if got := card.Mask(string(b)); got != string(want) {
			t.Errorf("C2: Mask(%x) = %x, want %x", b, got, want)
		}
	}
}
