package stan_test

import (
	"fmt"
	"math"
	"math/rand"
	"testing"
	"time"

	"turnstile/api"
	"turnstile/stan"
)

func TestField(t *testing.T) {
	for n := -1000; n < 1_001_000; n++ {
		holdsField(t, n)
	}
	for _, n := range edges {
		holdsField(t, n)
	}
}

func isNumber(n int) bool { return n > 0 && n < 1000000 }

func holdsField(t *testing.T, n int) {
	t.Helper()
	want, code := "", api.ErrArg
	if isNumber(n) {
		want, code = fmt.Sprint(1000000 + n)[1:], api.OK
	}
	if s, e := stan.Field(n); s != want || e != code {
		t.Fatalf("18.3: Field(%d) = %q, %d; must be %q, %d", n, s, e, want, code)
	}
}

// reference is what the library's calendar says of a moment and a number.
func reference(moment, number int) (string, api.Errno) {
	const last = 3155759999
	switch {
	case moment < 0 || moment > last:
		return "", api.ErrDate
	case !isNumber(number):
		return "", api.ErrArg
	}
	at := time.Date(2000, 1, 1, 0, 0, 0, 0, time.UTC).Add(time.Duration(moment) * time.Second)
	return fmt.Sprintf("%d%03d%02d%06d", at.Year()%10, at.YearDay(), at.Hour(), number), api.OK
}

func holdsReference(t *testing.T, moment, number int) {
	t.Helper()
	want, code := reference(moment, number)
	if s, e := stan.Reference(moment, number); s != want || e != code {
		t.Fatalf("18.4: Reference(%d, %d) = %q, %d; must be %q, %d", moment, number, s, e, want, code)
	}
}

// TestReference: each hour of the hundred years, at its edges.
func TestReference(t *testing.T) {
	r := rand.New(rand.NewSource(1801))
	const hours = 36525 * 24
	for hour := range hours {
		number := 1 + r.Intn(999999)
		holdsReference(t, hour*3600, number)
		holdsReference(t, hour*3600+3599, number)
	}
	for range 100000 {
		holdsReference(t, r.Intn(3155760000), oneOf(r, 1, 999999, 1+r.Intn(999999), 1+r.Intn(100)))
	}
}

// TestReferenceRefuses: and the moment is looked at ahead of the number.
func TestReferenceRefuses(t *testing.T) {
	moments := []int{math.MinInt, -1 << 32, -86400, -3600, -1, 0, 1, 3599, 3600, 86399, 86400, 848063100, 3155759999, 3155760000, 3155760001, 1 << 33, math.MaxInt}
	for _, moment := range moments {
		for _, number := range edges {
			holdsReference(t, moment, number)
		}
	}
}
