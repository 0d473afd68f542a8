package standin

// tally is how many approvals there are, and their amounts together.
type tally struct{ count, sum int }

func (t tally) howMany() int { return t.count }

func (t tally) together() int { return t.sum }

// number is any kind of numbers.
type number interface {
	~int | ~int8 | ~int16 | ~int32 | ~int64 |
		~uint | ~uint8 | ~uint16 | ~uint32 | ~uint64 | ~uintptr |
		~float32 | ~float64 | ~complex64 | ~complex128
}

// total adds up a number of each thing.
func total[T any, N number](l []T, of func(T) N) N {
	var sum N
	for _, x := range l {
		sum += of(x)
	}
	return sum
}
