package money

import "slices"

// allPlaces is how many places each currency has; what is not in it is none.
func allPlaces() map[string]int {
	return map[string]int{
		"152": 0, "352": 0, "392": 0, "410": 0,

		"036": 2, "124": 2, "156": 2, "208": 2, "344": 2, "356": 2,
		"484": 2, "554": 2, "578": 2, "702": 2, "710": 2, "752": 2,
		"756": 2, "826": 2, "840": 2, "949": 2, "978": 2, "986": 2,

		"048": 3, "400": 3, "414": 3, "512": 3, "788": 3,
	}
}

// rising is the currencies in their order, in whatever order the map tells them.
func rising(places map[string]int) []string {
	all := make([]string, 0, len(places))
	for currency := range places {
		all = append(all, currency)
	}
	slices.Sort(all) // as texts: they are all of one length
	return all
}
