package money_test

import (
	"fmt"
	"math"
	"math/big"
	"math/rand"
	"regexp"
	"sort"
	"strconv"
	"strings"

	"turnstile/api"
)

// A plain second reading of the chapter, by patterns and numbers of any size, is held against the package.

const most = 999999999999

// The chapter's table, as it stands there.
const (
	withNone  = "152 352 392 410"
	withTwo   = "036 124 156 208 344 356 484 554 578 702 710 752 756 826 840 949 978 986"
	withThree = "048 400 414 512 788"
)

var (
	oneRate = regexp.MustCompile(`\A[0-7][0-9]{7}\z`)
	texts   = map[int]*regexp.Regexp{
		0: regexp.MustCompile(`\A(0|[1-9][0-9]*)()\z`),
		2: regexp.MustCompile(`\A(0|[1-9][0-9]*)\.([0-9]{2})\z`),
		3: regexp.MustCompile(`\A(0|[1-9][0-9]*)\.([0-9]{3})\z`),
	}
)

// currencies are all, rising.
func currencies() []string {
	l := strings.Fields(withNone + " " + withTwo + " " + withThree)
	sort.Strings(l)
	return l
}

func wantPlaces(currency string) (int, api.Errno) {
	for places, row := range map[int]string{0: withNone, 2: withTwo, 3: withThree} {
		for _, c := range strings.Fields(row) {
			if c == currency {
				return places, api.OK
			}
		}
	}
	return 0, api.ErrCurrency
}

func wantShow(units int, currency string) (string, api.Errno) {
	places, e := wantPlaces(currency)
	if e != api.OK {
		return "", e
	}
	if units < 0 || units > most {
		return "", api.ErrAmount
	}
	return new(big.Rat).SetFrac(big.NewInt(int64(units)), ten(places)).FloatString(places), api.OK
}

func wantRead(s, currency string) (int, api.Errno) {
	places, e := wantPlaces(currency)
	if e != api.OK {
		return 0, e
	}
	m := texts[places].FindStringSubmatch(s)
	if m == nil {
		return 0, api.ErrAmount
	}
	n, ok := new(big.Int).SetString(m[1]+m[2], 10)
	if !ok || n.Cmp(big.NewInt(most)) > 0 {
		return 0, api.ErrAmount
	}
	return int(n.Int64()), api.OK
}

// exact is V: what comes of units by a rate, unrounded.
func exact(units int, from, to, rate string) *big.Rat {
	old, _ := wantPlaces(from)
	places, _ := wantPlaces(to)
	behind, _ := strconv.Atoi(rate[:1])
	number, _ := strconv.Atoi(rate[1:])
	v := new(big.Rat).SetFrac(big.NewInt(int64(units)), ten(old))
	v.Mul(v, new(big.Rat).SetFrac(big.NewInt(int64(number)), ten(behind)))
	return v.Mul(v, new(big.Rat).SetInt(ten(places)))
}

func wantConvert(units int, from, to, rate string) (int, api.Errno) {
	for _, c := range []string{from, to} {
		if _, e := wantPlaces(c); e != api.OK {
			return 0, e
		}
	}
	if units < 0 || units > most {
		return 0, api.ErrAmount
	}
	if !oneRate.MatchString(rate) || rate[1:] == "0000000" {
		return 0, api.ErrRate
	}
	n := nearestTo(exact(units, from, to, rate))
	if n.Cmp(big.NewInt(most)) > 0 {
		return 0, api.ErrOver
	}
	return int(n.Int64()), api.OK
}

// nearestTo looks at the whole numbers on both sides.
func nearestTo(v *big.Rat) *big.Int {
	below := new(big.Int).Quo(v.Num(), v.Denom())
	above := new(big.Int).Add(below, big.NewInt(1))
	down := new(big.Rat).Sub(v, new(big.Rat).SetInt(below))
	up := new(big.Rat).Sub(new(big.Rat).SetInt(above), v)
	switch down.Cmp(up) {
	case -1:
		return below
	case 1:
		return above
	}
	if below.Bit(0) == 0 {
		return below
	}
	return above
}

func wantShare(units int, weights []int) ([]int, api.Errno) {
	if units < 0 || units > most {
		return nil, api.ErrAmount
	}
	all := new(big.Int)
	for _, w := range weights {
		if w < 0 || w > 1000000 {
			return nil, api.ErrArg
		}
		all.Add(all, big.NewInt(int64(w)))
	}
	if len(weights) < 1 || len(weights) > 100 || all.Sign() == 0 {
		return nil, api.ErrArg
	}
	left := units
	var got []int
	var rests []*big.Int
	for _, w := range weights {
		part, rest := new(big.Int).QuoRem(new(big.Int).Mul(big.NewInt(int64(units)), big.NewInt(int64(w))), all, new(big.Int))
		got, rests = append(got, int(part.Int64())), append(rests, rest)
		left -= int(part.Int64())
	}
	for ; left > 0; left-- {
		at := 0
		for i, rest := range rests {
			if rest.Cmp(rests[at]) > 0 {
				at = i
			}
		}
		got[at]++
		rests[at] = big.NewInt(-1) // it has had its one
	}
	return got, api.OK
}

func wantSum(units []int) (int, api.Errno) {
	total := new(big.Int)
	for _, n := range units {
		if n < 0 || n > most {
			return 0, api.ErrAmount
		}
		total.Add(total, big.NewInt(int64(n)))
	}
	if total.Cmp(big.NewInt(most)) > 0 {
		return 0, api.ErrOver
	}
	return int(total.Int64()), api.OK
}

func ten(places int) *big.Int {
	return new(big.Int).Exp(big.NewInt(10), big.NewInt(int64(places)), nil)
}

// randomUnits is an amount; small ones, great ones and such as end in noughts come often.
func randomUnits(r *rand.Rand) int {
	n := r.Intn(int(math.Pow10(r.Intn(13))))
	switch r.Intn(4) {
	case 0:
		return most - n
	case 1:
		scale := int(math.Pow10(r.Intn(8)))
		return n / scale * scale
	}
	return n
}

func randomRate(r *rand.Rand) string {
	n := 1 + r.Intn(int(math.Pow10(1+r.Intn(7)))-1)
	if r.Intn(3) == 0 { // halves come of these
		n = 5 * (1 + r.Intn(1999999))
	}
	return fmt.Sprintf("%d%07d", r.Intn(8), n)
}

func randomCurrency(r *rand.Rand) string {
	l := currencies()
	return l[r.Intn(len(l))]
}

// wrongUnits are numbers that are no amounts.
func wrongUnits() []int {
	return []int{-1, -2, -999999999999, most + 1, most + 2, 1 << 62, math.MinInt, math.MinInt + 1, math.MaxInt, math.MaxInt - 1}
}

// edges are amounts at which a digit more or a round number begins, and those beside them.
func edges() []int {
	var l []int
	for n := 1; n <= most; n *= 10 {
		l = append(l, n-1, n, n+1, 5*n, 9*n)
	}
	return append(l, most-1, most, most/2, most/2+1)
}

// wrongCurrencies are texts that are none; some have one within them.
func wrongCurrencies() []string {
	return []string{"", "8", "84", "8400", " 840", "840 ", "840\x00", "0840", "+84", "48", "999", "000", "36", "８４０", "84O", "USD", "\xFF\xFF\xFF", "840 978", strings.Repeat("840", 1000)}
}

// withByte is a text with another byte at a place.
func withByte(s string, at int, c byte) string { return s[:at] + string([]byte{c}) + s[at+1:] }
