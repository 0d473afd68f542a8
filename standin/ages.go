package standin

import (
	"container/heap"
	"strings"
)

// ages is a heap of records: first is the one whose last approval was given first.
type ages []*record

func (a ages) Len() int { return len(a) }

func (a ages) Less(i, j int) bool { return a[i].last < a[j].last }

func (a ages) Swap(i, j int) {
	a[i], a[j] = a[j], a[i]
	a[i].place, a[j].place = i, j
}

func (a *ages) Push(x any) {
	r := x.(*record)
	r.place = len(*a)
	*a = append(*a, r)
}

func (a *ages) Pop() any {
	last := len(*a) - 1
	r := (*a)[last]
	(*a)[last] = nil // else the record would be kept there
	*a = (*a)[:last]
	return r
}

// give notes an approval, as the last one.
func (b *Book) give(card string, units, now int) {
	b.given++
	a := approval{b.given, units, now}
	if r := b.cards[card]; r != nil {
		r.add(a)
		heap.Fix(&b.ages, r.place)
		return
	}
	r := &record{card: strings.Clone(card), sheets: map[int]*sheet{}}
	r.add(a)
	b.cards[r.card] = r
	heap.Push(&b.ages, r)
}

// settle lays a record of which an approval was taken out where it belongs now.
func (b *Book) settle(r *record) {
	if len(r.sheets) == 0 {
		b.forget(r)
		return
	}
	heap.Fix(&b.ages, r.place)
}

func (b *Book) forget(r *record) {
	heap.Remove(&b.ages, r.place)
	delete(b.cards, r.card)
}
