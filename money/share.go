package money

import (
	"cmp"
	"slices"

	"turnstile/api"
)

const (
	mostWeights = 100
	mostWeight  = 1000000
)

// Share deals an amount out by weights.
func Share(units int, weights ...int) ([]int, api.Errno) {
	if !isAmount(units) {
		return nil, api.ErrAmount
	}
	all, ok := together(weights)
	if !ok {
		return nil, api.ErrArg
	}
	shares, rests := make([]int, len(weights)), make([]int, len(weights))
	left := units
	for i, w := range weights {
		shares[i], rests[i] = units*w/all, units*w%all // below 10 to the 18: there is room
		left -= shares[i]
	}
	for _, i := range greatestFirst(rests)[:left] { // the rests are left times all together, each below all: so left are fewer than they
		shares[i]++
	}
	return shares, api.OK
}

// together is the sum of weights; false: they are not such as an amount is dealt out by.
func together(weights []int) (int, bool) {
	if len(weights) > mostWeights {
		return 0, false
	}
	all := 0
	for _, w := range weights {
		if w < 0 || w > mostWeight {
			return 0, false
		}
		all += w
	}
	return all, all > 0 // of no weights it is 0 too
}

// greatestFirst is the places of numbers, by what stands there; of equal ones the first stays ahead.
func greatestFirst(numbers []int) []int {
	order := make([]int, len(numbers))
	for i := range order {
		order[i] = i
	}
	slices.SortStableFunc(order, func(a, b int) int { return cmp.Compare(numbers[b], numbers[a]) })
	return order
}
