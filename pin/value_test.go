package pin_test

import (
	"math/rand"
	"strings"
	"testing"

	"turnstile/api"
	"turnstile/pin"
)

func checkValue(t *testing.T, key, pan, index, p string) {
	t.Helper()
	want, e := wantValue(key, pan, index, p)
	if got, f := pin.Value(key, pan, index, p); got != want || f != e {
		t.Errorf("6.5: Value(%q, %q, %q, %q) = %q, %d, want %q, %d", key, pan, index, p, got, f, want, e)
	}
}

// TestValuesOfFewDigits: of the 16 sixteenths that come only 3, 2, 1 or none are below 10, or all are.
func TestValuesOfFewDigits(t *testing.T) {
	for _, k := range []struct{ digits, index, p, row, want string }{
		{"00000000000", "3", "0040", "4616040927851102", "4616"},
		{"00000000000", "1", "0167", "E6EC4CAEEFCBDD0A", "6404"},
		{"00000000000", "5", "9954", "CAABBCFADCADE9D7", "9720"},
		{"00000000002", "2", "4251", "AFCF6DFBFFACDFFA", "6052"},
		{"00000000032", "6", "3366", "CCBBACBAAEFFDDBA", "2211"},
	} {
		if row := encrypted(someKey, bytesOf(k.digits+k.index+k.p)); row != bytesOf(k.row) {
			t.Fatalf("the test's own row is %X, not %s", row, k.row)
		}
		for _, pan := range []string{"4" + k.digits + "7", "9876543" + k.digits + "0"} {
			if got, e := pin.Value(someKey, pan, k.index, k.p); got != k.want || e != api.OK {
				t.Errorf("6.5: Value of the row %s = %q, %d, want %q", k.row, got, e, k.want)
			}
		}
	}
}

func TestManyValues(t *testing.T) {
	r := rand.New(rand.NewSource(66))
	for range 20000 {
		checkValue(t, randomText(r, 16), randomPAN(r), oneOf(r, "123456", 1), randomPIN(r))
	}
}

func TestValueAsksForTheKey(t *testing.T) {
	for _, key := range keysOfAllLengths() {
		checkValue(t, key, somePAN, "1", "1234")
		checkValue(t, key, "", "", "")
	}
}

// TestValueAsksForThePAN: its length, and each byte at each place; ahead of the PIN and the index.
func TestValueAsksForThePAN(t *testing.T) {
	for n := range 100 {
		pan := strings.Repeat("3", n)
		checkValue(t, someKey, pan, "1", "1234")
		checkValue(t, someKey, pan, "0", "1")
		if n < 13 || n > 19 {
			continue
		}
		for at := range n {
			for c := range 256 {
				checkValue(t, someKey, withByte(pan, at, byte(c)), "2", "1234")
			}
		}
	}
}

func TestValueAsksForThePIN(t *testing.T) {
	for n := range 100 {
		p := strings.Repeat("8", n)
		checkValue(t, someKey, somePAN, "1", p)
		checkValue(t, someKey, somePAN, "7", p)
		if n < 4 || n > 12 {
			continue
		}
		for at := range n {
			for c := range 256 {
				checkValue(t, someKey, somePAN, "3", withByte(p, at, byte(c)))
			}
		}
	}
}

func TestValueAsksForTheIndex(t *testing.T) {
	for c := range 256 {
		one := string([]byte{byte(c)})
		checkValue(t, someKey, somePAN, one, "1234")
		checkValue(t, someKey, somePAN, one+"1", "1234")
		checkValue(t, someKey, somePAN, "1"+one, "1234")
	}
	for _, index := range []string{"", "01", "11", "123456", "١", strings.Repeat("1", 1000)} {
		checkValue(t, someKey, somePAN, index, "1234")
	}
}

// TestElevenDigitsOfThePAN: one more or less of them would be another value.
func TestElevenDigitsOfThePAN(t *testing.T) {
	for n := 13; n <= 19; n++ {
		pan := strings.Repeat("6", n)
		row := func(pan string) string { // longer than four digits, so that no two are alike by chance
			s := ""
			for _, index := range []string{"1", "2", "3", "4", "5", "6"} {
				v, e := pin.Value(someKey, pan, index, "4321")
				if e != api.OK {
					t.Errorf("6.5: Value(%q, %q) = %d", pan, index, e)
				}
				s += v
			}
			return s
		}
		for at := range n {
			within := at >= n-12 && at < n-1
			if (row(pan) != row(withByte(pan, at, '1'))) != within {
				t.Errorf("6.5: Value of a PAN of %d digits, the one at %d turned: whether it changes is wrong", n, at)
			}
		}
	}
}
