package clock_test

import (
	"fmt"
	"math/rand"
	"strings"
	"testing"

	"turnstile/api"
	"turnstile/clock"
)

func checkNear(t *testing.T, stamp string, moment int) {
	t.Helper()
	want, e := wantNear(stamp, moment)
	if got, f := clock.Near(stamp, moment); got != want || f != e {
		t.Errorf("K3: Near(%q, %d) = %d, %d, want %d, %d", stamp, moment, got, f, want, e)
	}
}

func TestNearExamples(t *testing.T) {
	for _, k := range []struct {
		stamp        string
		moment, want int
		e            api.Errno
	}{
		{"0229123456", 0, 5142896, api.OK},
		{"0229123456", 762525296, 762525296, api.OK},
		{"0229123456", most, 3034672496, api.OK}, // 2096 is the last leap one
		{"1231235959", 0, 31622399, api.OK},
		{"1231235959", 31622400, 31622399, api.OK},
		{"0101000000", 31622399, 31622400, api.OK},
		{"0101000000", most, 3124224000, api.OK}, // behind 2099 there is none
		{"1231235959", most, most, api.OK},
		{"0101000000", 0, 0, api.OK},
		{"0230000000", 0, 0, api.ErrStamp},
		{"0431000000", 0, 0, api.ErrStamp},
		{"0000000000", 0, 0, api.ErrStamp},
		{"0100000000", 0, 0, api.ErrStamp},
		{"1301000000", 0, 0, api.ErrStamp},
		{"0101240000", 0, 0, api.ErrStamp},
		{"0101006000", 0, 0, api.ErrStamp},
		{"0101000060", 0, 0, api.ErrStamp},
		{"", 0, 0, api.ErrStamp},
		{"", -1, 0, api.ErrDate},
		{"0101000000", -1, 0, api.ErrDate},
		{"0101000000", most + 1, 0, api.ErrDate},
		{"0230000000", most + 1, 0, api.ErrDate},
	} {
		if got, e := clock.Near(k.stamp, k.moment); got != k.want || e != k.e {
			t.Errorf("K3: Near(%q, %d) = %d, %d, want %d, %d", k.stamp, k.moment, got, e, k.want, k.e)
		}
	}
}

// TestNearInTheMiddle: between each two moments of a stamp, where one becomes nearer than the other, and where both are as near.
func TestNearInTheMiddle(t *testing.T) {
	even := 0
	for _, stamp := range []string{"0101000000", "0228235959", "0229000000", "0229123456", "0229235959", "0301000000", "0630120000", "0701000000", "1115120000", "1231235959"} {
		all := moments(stamp)
		for i := 1; i < len(all); i++ {
			a, b := all[i-1], all[i]
			if (a+b)%2 == 0 {
				even++
				if got, e := clock.Near(stamp, (a+b)/2); got != a || e != api.OK {
					t.Errorf("K3: of two as near the earlier one: Near(%q, %d) = %d, %d, want %d", stamp, (a+b)/2, got, e, a)
				}
			}
			for _, moment := range []int{a, a + 1, (a+b)/2 - 1, (a + b) / 2, (a+b)/2 + 1, (a+b)/2 + 2, b - 1, b} {
				want, e := nearestOf(all, moment)
				if got, f := clock.Near(stamp, moment); got != want || f != e {
					t.Errorf("K3: Near(%q, %d) = %d, %d, want %d, %d", stamp, moment, got, f, want, e)
				}
			}
		}
	}
	if even < 500 {
		t.Errorf("the test saw %d middles only", even)
	}
}

// TestNearOfEachDay: each month and day that two digits each may tell, seen from some moments.
func TestNearOfEachDay(t *testing.T) {
	from := []int{0, 31*day + 5, 762525296, 762525296 + 2*365*day, 852033600, most - 59*day, most}
	for month := range 100 {
		for n := range 100 {
			for _, hour := range []string{"000000", "235959"} {
				stamp := fmt.Sprintf("%02d%02d", month, n) + hour
				all := moments(stamp)
				for _, moment := range from {
					want, e := nearestOf(all, moment)
					if got, f := clock.Near(stamp, moment); got != want || f != e {
						t.Errorf("K3: Near(%q, %d) = %d, %d, want %d, %d", stamp, moment, got, f, want, e)
					}
				}
			}
		}
	}
}

// TestNearOfEachTime: each hour, minute and second that two digits may tell.
func TestNearOfEachTime(t *testing.T) {
	for n := range 100 {
		for _, layout := range []string{"0229%02d0000", "022900%02d00", "02290000%02d", "0709%02d5959", "070923%02d59", "07092359%02d"} {
			for _, moment := range []int{0, 762525296, most} {
				checkNear(t, fmt.Sprintf(layout, n), moment)
			}
		}
	}
}

// TestNearOfOtherTexts: each byte at each place, texts that are cut off or go on, and such as another reader might take for numbers.
func TestNearOfOtherTexts(t *testing.T) {
	for _, stamp := range []string{"0229123456", "1115120000", "0101000000", "1231235959", "0230000000"} {
		for place := range len(stamp) {
			checkNear(t, stamp[:place], 0)
			checkNear(t, stamp[place+1:], 0)
			for c := range 256 {
				checkNear(t, withByte(stamp, place, byte(c)), 762525296)
			}
		}
		for c := range 256 {
			for place := range len(stamp) + 1 {
				checkNear(t, stamp[:place]+string([]byte{byte(c)})+stamp[place:], 762525296)
			}
		}
	}
	for _, stamp := range []string{"+101000000", "01+1000000", "01-1000000", "01 1000000", " 101000000", "0101 00000", "010100000 ", "01010000.0", "0x01000000", "20240229123456", "240229123456", "０１０", "\x00\x01\x00\x01\x00\x00\x00\x00\x00\x00", strings.Repeat("\xFF", 10), strings.Repeat("01", 50000)} {
		checkNear(t, stamp, 0)
	}
}

// TestNearTellsTheFirstError: right and wrong ones of both, each with each.
func TestNearTellsTheFirstError(t *testing.T) {
	for _, moment := range append([]int{0, 1, day, most - 1, most}, wrongMoments()...) {
		for _, stamp := range []string{"0101000000", "0229123456", "1231235959", "0230000000", "0101240000", "", "x", "01010000000"} {
			checkNear(t, stamp, moment)
		}
	}
}

func TestNearOfMany(t *testing.T) {
	r := rand.New(rand.NewSource(88))
	for range 5000 {
		stamp, _ := wantStamp(randomMoment(r))
		all := moments(stamp)
		for range 5 {
			moment := randomMoment(r)
			want, e := nearestOf(all, moment)
			if got, f := clock.Near(stamp, moment); got != want || f != e {
				t.Errorf("K3: Near(%q, %d) = %d, %d, want %d, %d", stamp, moment, got, f, want, e)
			}
		}
	}
}
