package standin

import (
	"cmp"
	"slices"
)

// sheetRoom is how many approvals a sheet has at most. A card may have any number of them, and none grows old by itself: what counts is found by whole sheets, and only on few of them one by one.
const sheetRoom = 1000

// approval has a number by which it stands in the order of all, those of other cards too.
type approval struct{ number, units, tick int }

func (a approval) amount() int { return a.units }

// sheet is approvals of a card, one behind the other in their order, so that their ticks never fall; and their amounts together.
type sheet struct {
	given []approval
	sum   int
}

func (s *sheet) add(a approval) {
	s.given = append(s.given, a)
	s.sum += a.units
}

// takeOut leaves no spare room behind: else a sheet would keep that of the most it ever had.
func (s *sheet) takeOut(place int) {
	s.sum -= s.given[place].units
	s.given = slices.Concat(s.given[:place], s.given[place+1:])
}

// from is how many approvals were given ahead of a tick.
func (s *sheet) from(tick int) int {
	place, _ := slices.BinarySearchFunc(s.given, tick, func(a approval, tick int) int {
		return cmp.Compare(a.tick, tick)
	})
	return place
}

// find is the place of the first approval of an amount at a tick; -1: there is none.
func (s *sheet) find(units, tick int) int {
	for place := s.from(tick); place < len(s.given) && s.given[place].tick == tick; place++ {
		if s.given[place].units == units {
			return place
		}
	}
	return -1
}

// used is what was given from a tick on.
func (s *sheet) used(tick int) tally {
	place := s.from(tick)
	if place == 0 {
		return tally{len(s.given), s.sum}
	}
	l := s.given[place:]
	return tally{len(l), total(l, approval.amount)}
}
