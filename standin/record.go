package standin

// record is what is remembered of a card.
type record struct {
	card   string
	sheets map[int]*sheet // each under the number of the approval that it began with
	open   int            // the sheet on which the next approval is written, if there is room
	last   int            // the number of the last approval
	place  int            // among the ages
}

func (r *record) add(a approval) {
	s := r.sheets[r.open]
	if s == nil || len(s.given) == sheetRoom {
		s = &sheet{}
		r.open = a.number
		r.sheets[r.open] = s
	}
	s.add(a)
	r.last = a.number
}

// takeOut takes the first approval of an amount at a tick out, if there is one.
func (r *record) takeOut(units, tick int) bool {
	first := r.find(units, tick)
	s := r.sheets[first]
	if s == nil {
		return false
	}
	s.takeOut(s.find(units, tick))
	if len(s.given) == 0 {
		delete(r.sheets, first)
	}
	r.last = r.newest()
	return true
}

// find is the first sheet that has an approval of an amount at a tick; 0: none has.
func (r *record) find(units, tick int) int {
	first := 0
	for n, s := range r.sheets {
		if (first == 0 || n < first) && s.find(units, tick) >= 0 {
			first = n
		}
	}
	return first
}

// newest is the number of the last approval that is left; 0: there is none.
func (r *record) newest() int {
	last := 0
	for _, s := range r.sheets {
		last = max(last, s.given[len(s.given)-1].number)
	}
	return last
}

// used is how many approvals were given from a tick on, and their amounts together.
func (r *record) used(tick int) (int, int) {
	l := make([]tally, 0, len(r.sheets))
	for _, s := range r.sheets {
		l = append(l, s.used(tick))
	}
	return total(l, tally.howMany), total(l, tally.together)
}
