package totals

import (
	"slices"
	"sync"
)

// adders is how many goroutines add up books at most: there may be any number of books.
const adders = 8

// areAlike tells whether there are books, and all of them have as many links.
func areAlike(books []*Book) bool {
	return len(books) > 0 && !slices.ContainsFunc(books, func(b *Book) bool {
		return len(b.links) != len(books[0].links)
	})
}

// together is what books that are alike have, link by link. Each adder sends what its share of them has: in whatever order that comes, it adds up to the same.
func together(books []*Book) []tally {
	parts := make(chan []tally, adders) // with room for all: no adder waits till its part is received
	var adding sync.WaitGroup
	for share := range slices.Chunk(books, (len(books)+adders-1)/adders) {
		adding.Go(func() { parts <- addUp(share) })
	}
	adding.Wait()
	close(parts)
	all := make([]tally, len(books[0].links))
	for part := range parts {
		add(all, part)
	}
	return all
}

// addUp is what books have, one behind the other.
func addUp(books []*Book) []tally {
	sum := make([]tally, len(books[0].links))
	for _, b := range books {
		add(sum, b.links)
	}
	return sum
}

// add lays more on a sum, link by link.
func add(sum, more []tally) {
	for link, t := range more {
		sum[link] = sum[link].plus(t)
	}
}
