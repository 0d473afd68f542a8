package route_test

import (
	"math"
	"slices"
	"testing"

	"turnstile/api"
	"turnstile/route"
)

func chooses(t *testing.T, links []int, ready []bool, k int, ok bool) {
	t.Helper()
	for _, g := range []api.Group{{Links: links}, {Name: "NO NAME", Links: links, Standin: api.Limits{Single: -1, Window: -1}}} {
		if gotK, got := route.Choose(g, ready); gotK != k || got != ok {
			t.Errorf("15.4: Choose(%v, %v) = %d, %v; must be %d, %v", g, ready, gotK, got, k, ok)
		}
	}
}

func TestChoose(t *testing.T) {
	chooses(t, []int{3, 0, 1}, []bool{true, true}, 0, true)
	chooses(t, []int{0, 1}, []bool{false, false}, 0, false)
	chooses(t, []int{1, 0}, []bool{true, true}, 1, true)
	chooses(t, []int{0, 1, 2}, []bool{false, true, true}, 1, true)
	chooses(t, []int{2, 1, 0}, []bool{true, false, false}, 0, true)
	chooses(t, []int{1, 1}, []bool{true, true}, 1, true)
	chooses(t, []int{-1, 2, math.MinInt, math.MaxInt}, []bool{true, true}, 0, false)
	chooses(t, []int{-1, 2, math.MinInt, math.MaxInt, 1}, []bool{true, true}, 1, true)
	chooses(t, []int{40}, append(make([]bool, 40), true), 40, true)
	chooses(t, []int{0}, nil, 0, false)
	chooses(t, []int{0}, []bool{}, 0, false)
	chooses(t, nil, []bool{true}, 0, false)
	chooses(t, []int{}, []bool{true}, 0, false)
	chooses(t, nil, nil, 0, false)
}

// TestChooseOfAll: all groups of up to three links, of all that may be ready.
func TestChooseOfAll(t *testing.T) {
	for many := range 4 {
		for bits := range 1 << many {
			ready := make([]bool, many)
			var there []int
			for i := range ready {
				ready[i] = bits>>i&1 == 1
				if ready[i] {
					there = append(there, i)
				}
			}
			for a := -1; a < 5; a++ {
				for b := -1; b < 5; b++ {
					for c := -1; c < 5; c++ {
						links := []int{a, b, c}
						for n := range 4 {
							at := slices.IndexFunc(links[:n], func(k int) bool { return slices.Contains(there, k) })
							if at < 0 {
								chooses(t, links[:n], ready, 0, false)
							} else {
								chooses(t, links[:n], ready, links[at], true)
							}
						}
					}
				}
			}
		}
	}
}
