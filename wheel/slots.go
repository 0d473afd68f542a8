package wheel

import (
	"cmp"
	"slices"
)

// laid is a thing that was laid down.
type laid[T any] struct {
	timer int
	tick  int
	thing T
}

// slot is where a tick's timers are, among those of other rounds, in the order in which they were laid down.
func (w *Wheel[T]) slot(tick int) *[]laid[T] { return &w.slots[tick%len(w.slots)] }

func (w *Wheel[T]) put(x laid[T]) {
	slot := w.slot(x.tick)
	*slot = append(*slot, x)
	w.ticks[x.timer] = x.tick
}

// take takes those that are meant out of a tick's slot: their things.
func (w *Wheel[T]) take(tick int, meant func(laid[T]) bool) []T {
	slot := w.slot(tick)
	var things []T
	for _, x := range *slot {
		if meant(x) {
			things = append(things, x.thing)
			delete(w.ticks, x.timer)
		}
	}
	*slot = fitted(slices.DeleteFunc(*slot, meant))
	return things
}

// fitted gives back the room of a list that has shrunk far: else each slot would keep that of the most it ever had.
func fitted[T any](l []laid[T]) []laid[T] {
	if len(l) > cap(l)/4 {
		return l
	}
	return append([]laid[T](nil), l...)
}

// inOrder is all that waits, as it comes, apart from the slots.
func (w *Wheel[T]) inOrder() []laid[T] {
	all := slices.Concat(w.slots...)
	slices.SortFunc(all, func(a, b laid[T]) int {
		return cmp.Or(cmp.Compare(a.tick, b.tick), cmp.Compare(a.timer, b.timer))
	})
	return all
}
