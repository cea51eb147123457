package nums

import (
	"math"
	"slices"
	"testing"
)

var outside = []int{-1, 256, -256, 257, 300, 511, 1 << 32, math.MaxInt, math.MinInt}

// edges are the least and the greatest number, and those beside each multiple of 64.
var edges = []int{0, 1, 62, 63, 64, 65, 127, 128, 129, 191, 192, 193, 254, 255}

// P1.2: the zero Set is empty.
func TestZeroSet(t *testing.T) {
	var s Set
	if s != Of() || s.Count() != 0 || len(s.List()) != 0 || s.Next(0) != -1 || s.Next(math.MinInt) != -1 {
		t.Error("the zero Set is not empty")
	}
	for n := -300; n < 600; n++ {
		if s.Has(n) {
			t.Errorf("the zero Set has %d", n)
		}
	}
	if s.Without(3) != s || s.With(3) == s {
		t.Error("Without or With of the zero Set")
	}
}

// P1.2: Of has the numbers of its list that are in the range, each once.
func TestOf(t *testing.T) {
	for _, c := range []struct{ l, want []int }{
		{nil, nil},
		{[]int{3, 1, 300}, []int{1, 3}},
		{[]int{255, 0}, []int{0, 255}},
		{[]int{7, 7, 7}, []int{7}},
		{outside, nil},
		{[]int{-1, 0, 255, 256}, []int{0, 255}},
		{edges, edges},
	} {
		given := slices.Clone(c.l)
		if got := Of(c.l...).List(); !slices.Equal(got, c.want) {
			t.Errorf("Of(%v) has %v", c.l, got)
		}
		if !slices.Equal(c.l, given) {
			t.Errorf("Of changed its list %v", given)
		}
	}
}

// P1.2: each number from 0 to 255 alone.
func TestSingle(t *testing.T) {
	for n := range 256 {
		s := Of(n)
		if !slices.Equal(s.List(), []int{n}) || s.Count() != 1 {
			t.Fatalf("Of(%d) has %v", n, s.List())
		}
		for k := -10; k < 530; k++ {
			if s.Has(k) != (k == n) {
				t.Fatalf("Of(%d).Has(%d)", n, k)
			}
		}
		if s.Next(n) != n || s.Next(n-1) != n || s.Next(n+1) != -1 {
			t.Fatalf("Next around %d", n)
		}
	}
}

// P1.2: a number out of the range is in no set, and changes none.
func TestOutside(t *testing.T) {
	var all Set
	for n := range 256 {
		all = all.With(n)
	}
	for _, s := range []Set{{}, Of(edges...), all} {
		for _, n := range outside {
			if s.Has(n) || s.With(n) != s || s.Without(n) != s {
				t.Errorf("%d in a set of %d", n, s.Count())
			}
		}
	}
	if all.Count() != 256 || all.Next(255) != 255 || all.Next(256) != -1 || len(all.List()) != 256 {
		t.Error("the set of all numbers")
	}
}

// P1.2: Next takes every number, and returns the least element from it on.
func TestNext(t *testing.T) {
	s := Of(5, 63, 64, 200)
	for _, c := range []struct{ from, want int }{
		{math.MinInt, 5}, {-1, 5}, {0, 5}, {5, 5}, {6, 63}, {63, 63}, {64, 64}, {65, 200},
		{200, 200}, {201, -1}, {255, -1}, {256, -1}, {math.MaxInt, -1},
	} {
		if got := s.Next(c.from); got != c.want {
			t.Errorf("Next(%d) = %d, want %d", c.from, got, c.want)
		}
	}
	if Of(0).Next(0) != 0 || Of(0).Next(-5) != 0 || Of(255).Next(0) != 255 {
		t.Error("Next of the least or the greatest number")
	}
}

// P1.2: the receiver is a value that no operation changes.
func TestReceiver(t *testing.T) {
	s := Of(1, 2, 64)
	before := s
	s.With(3)
	s.Without(1)
	s.Has(2)
	l := s.List()
	l[0] = 9
	if s != before || !slices.Equal(s.List(), []int{1, 2, 64}) {
		t.Errorf("the set became %v", s.List())
	}
	more := s.With(3)
	if more.Without(3) != s || !more.Has(3) || s.Has(3) {
		t.Error("With and Without")
	}
}

// P1.2: sets with the same elements are equal, however they came to be.
func TestEqual(t *testing.T) {
	up, down := Set{}, Of(edges...).With(77).With(140)
	for _, n := range slices.Backward(edges) {
		up = up.With(n).With(n)
	}
	down = down.Without(77).Without(140).Without(140)
	if up != down || up != Of(append(edges[:len(edges):len(edges)], outside...)...) {
		t.Error("equal sets differ")
	}
	for _, n := range edges {
		if up.Without(n) == up {
			t.Errorf("sets are equal without %d", n)
		}
	}
}

// P1.2: a long row of With and Without, held against a list of bools.
func TestAgainstList(t *testing.T) {
	var s Set
	var want [256]bool
	turn := uint32(1)
	for range 2000 {
		turn = turn*1664525 + 1013904223
		n := int(turn>>16)%300 - 20
		with := turn>>31 == 0
		if with {
			s = s.With(n)
		} else {
			s = s.Without(n)
		}
		if n >= 0 && n < 256 {
			want[n] = with
		}
		compare(t, s, want)
	}
}

func compare(t *testing.T, s Set, want [256]bool) {
	t.Helper()
	var l []int
	next := -1
	for n := 255; n >= 0; n-- {
		if s.Has(n) != want[n] {
			t.Fatalf("Has(%d) = %v", n, s.Has(n))
		}
		if want[n] {
			next = n
			l = append(l, n)
		}
		if s.Next(n) != next {
			t.Fatalf("Next(%d) = %d, want %d", n, s.Next(n), next)
		}
	}
	slices.Reverse(l)
	if s.Count() != len(l) || !slices.Equal(s.List(), l) || s != Of(l...) {
		t.Fatalf("List is %v, want %v", s.List(), l)
	}
}
