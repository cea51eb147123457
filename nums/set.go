package nums

const (
	setSize  = 256 // the numbers from 0 on that a set can have
	wordBits = 64
)

// Set is a set of numbers from 0 to 255. Each set of numbers has one form only, so that == compares them.
type Set struct {
	bits [setSize / wordBits]uint64
}

// Of returns the set of those numbers of l that a set can have.
func Of(l ...int) Set {
	var s Set
	for _, n := range l {
		s = s.With(n)
	}
	return s
}

// Has reports whether n is in the set: adding it then makes no other one.
func (s Set) Has(n int) bool {
	return possible(n) && s.With(n).bits == s.bits
}

// With returns the set with n.
func (s Set) With(n int) Set {
	if possible(n) {
		s.bits[n/wordBits] |= 1 << (n % wordBits)
	}
	return s
}

// Without returns the set without n.
func (s Set) Without(n int) Set {
	if possible(n) {
		s.bits[n/wordBits] &^= 1 << (n % wordBits)
	}
	return s
}

// Count returns the number of elements.
func (s Set) Count() int {
	c := 0
	for range s.all {
		c++
	}
	return c
}

// Next returns the least element that is at least from; -1 if there is none.
func (s Set) Next(from int) int {
	for n := range s.all {
		if n >= from {
			return n
		}
	}
	return -1
}

// List returns the elements in ascending order.
func (s Set) List() []int {
	var l []int
	for n := range s.all {
		l = append(l, n)
	}
	return l
}

// all yields the elements in ascending order, for a range over it.
func (s Set) all(yield func(int) bool) {
	for n := range setSize {
		if s.Has(n) && !yield(n) {
			return
		}
	}
}

func possible(n int) bool {
	return n >= 0 && n < setSize
}
