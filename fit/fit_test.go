package fit

import (
	"math"
	"slices"
	"testing"

	"corbel/api"
	"corbel/group"
)

// whole is the geometry of the document's examples.
var whole = api.Geometry{Drives: 3, Zones: 6, Blocks: 26, Open: 2, Active: 6}

// valid are geometries from the least to the greatest, with the blocks of a volume.
var valid = []struct {
	g            api.Geometry
	zones, block int
	size         int
}{
	{whole, 3, 52, 74},
	{api.Geometry{Drives: 3, Zones: 5, Blocks: 20, Open: 1, Active: 4}, 2, 40, 27},
	{api.Geometry{Drives: 3, Zones: 5, Blocks: 256, Open: 5, Active: 5}, 2, 512, 432},
	{api.Geometry{Drives: 4, Zones: 7, Blocks: 27, Open: 2, Active: 5}, 4, 81, 186},
	{api.Geometry{Drives: 16, Zones: 5, Blocks: 33, Open: 1, Active: 5}, 2, 495, 417},
	{api.Geometry{Drives: 3, Zones: 64, Blocks: 197, Open: 1, Active: 4}, 61, 394, 19800},
	{api.Geometry{Drives: 16, Zones: 64, Blocks: 256, Open: 64, Active: 64}, 61, 3840, 197040},
}

// invalid are geometries that no array has, though some are valid according to layer 4.
var invalid = []api.Geometry{
	{},
	{Drives: 2, Zones: 6, Blocks: 26, Open: 2, Active: 6},
	{Drives: 17, Zones: 6, Blocks: 100, Open: 2, Active: 6},
	{Drives: 3, Zones: 4, Blocks: 26, Open: 2, Active: 4},
	{Drives: 3, Zones: 65, Blocks: 256, Open: 2, Active: 6},
	{Drives: 3, Zones: 6, Blocks: 22, Open: 2, Active: 6}, // one block too few
	{Drives: 3, Zones: 5, Blocks: 4, Open: 1, Active: 4},
	{Drives: 3, Zones: 6, Blocks: 257, Open: 2, Active: 6},
	{Drives: 3, Zones: 6, Blocks: 26, Open: 2, Active: 3}, // one active zone too few
	{Drives: 3, Zones: 6, Blocks: 26, Open: 0, Active: 6},
	{Drives: 3, Zones: 6, Blocks: 26, Open: 2, Active: 7},
	{Drives: -3, Zones: -6, Blocks: -26, Open: -2, Active: -6},
	{Drives: math.MaxInt, Zones: math.MaxInt, Blocks: math.MaxInt, Open: math.MaxInt, Active: math.MaxInt},
	{Drives: math.MinInt, Zones: math.MinInt, Blocks: math.MinInt, Open: math.MinInt, Active: math.MinInt},
}

// draws is a row of numbers that repeat in no short period.
type draws uint64

func (d *draws) next(n int) int {
	*d = *d*6364136223846793005 + 1442695040888963407
	return int(uint64(*d)>>33) % n
}

// packed is layer 20's number of blocks of n writes, by its words.
func packed(n int) int {
	blocks := n + n/6
	if n%6 > 0 {
		blocks++
	}
	return blocks
}

func expectEntries(t *testing.T, blocks, want int) {
	t.Helper()
	if got := Entries(blocks); got != want {
		t.Fatalf("Entries(%d) = %d, want %d", blocks, got, want)
	}
}

// The document's examples, and the least numbers of blocks.
func TestEntriesSmall(t *testing.T) {
	for blocks, want := range []int{0, 0, 1, 2, 3, 4, 5, 6, 6, 7, 8, 9, 10, 11, 12, 12, 13} {
		expectEntries(t, blocks, want)
	}
	expectEntries(t, 44, 37)
}

// P21.1: all numbers of blocks up to 2^20, each with the greatest n whose writes fit.
func TestEntriesAll(t *testing.T) {
	n := 0
	for blocks := 2; blocks <= 1<<20; blocks++ {
		for packed(n+1) <= blocks {
			n++
		}
		expectEntries(t, blocks, n)
	}
	expectEntries(t, 1<<20, 898779)
}

// P21.1: 0 if there are less than 2 blocks, or more than 2^20.
func TestEntriesNone(t *testing.T) {
	for _, blocks := range []int{1, 0, -1, -7, math.MinInt, 1<<20 + 1, 1<<20 + 2, 1223340, 1 << 21, 1 << 32, 1<<32 + 7, math.MaxInt} {
		expectEntries(t, blocks, 0)
	}
}

// P21.1: the geometry of the examples has 74 blocks, and others what the document states; those that are not valid 0.
func TestSize(t *testing.T) {
	for _, x := range valid {
		if got := Size(x.g); got != x.size {
			t.Errorf("Size(%v) = %d, want %d", x.g, got, x.size)
		}
	}
	for _, g := range invalid {
		if got := Size(g); got != 0 {
			t.Errorf("Size(%v) = %d", g, got)
		}
	}
}

// size is P21.1 for a geometry whose Open and Active are possible: the validity by the words of the layers 4 and 17.
func size(g api.Geometry) int {
	zones := g.Zones - 3
	if g.Drives < 3 || g.Drives > 16 || zones < 2 || zones > 61 || g.Blocks > 256 || g.Blocks < 11+g.Drives+3*zones {
		return 0
	}
	blocks, n := (g.Drives-1)*g.Blocks-8, 0
	for packed(n+1) <= blocks {
		n++
	}
	return n * (zones - 1)
}

// P21.1: about all numbers of drives, zones and blocks; whichever Open and Active are, if they are possible.
func TestSizeAll(t *testing.T) {
	for drives := 2; drives <= 17; drives++ {
		for zones := 4; zones <= 65; zones++ {
			for blocks := 18; blocks <= 257; blocks += 1 + (drives+zones+blocks)%5 {
				g := api.Geometry{Drives: drives, Zones: zones, Blocks: blocks, Open: 1, Active: 4}
				want := size(g)
				if got := Size(g); got != want {
					t.Fatalf("Size(%v) = %d, want %d", g, got, want)
				}
				g.Open, g.Active = 4, min(zones, 5)
				if got := Size(g); got != want {
					t.Fatalf("Size(%v) = %d, want %d", g, got, want)
				}
				g.Open, g.Active = 1, 3
				if got := Size(g); got != 0 {
					t.Fatalf("Size(%v) = %d", g, got)
				}
			}
		}
	}
}

func expectRange(t *testing.T, g api.Geometry, block, n int, want bool) {
	t.Helper()
	if got := Range(g, block, n); got != want {
		t.Errorf("Range(%v, %d, %d) = %v", g, block, n, got)
	}
}

// P21.1: the block is at least 0, n at least 1, and their sum at most Size.
func TestRange(t *testing.T) {
	for block := -2; block <= 77; block++ {
		for n := -2; n <= 77; n++ {
			expectRange(t, whole, block, n, block >= 0 && n >= 1 && block+n <= 74)
		}
	}
	for _, x := range valid {
		expectRange(t, x.g, 0, x.size, true)
		expectRange(t, x.g, 0, x.size+1, false)
		expectRange(t, x.g, 1, x.size, false)
		expectRange(t, x.g, x.size-1, 1, true)
		expectRange(t, x.g, x.size-1, 2, false)
		expectRange(t, x.g, x.size, 1, false)
		expectRange(t, x.g, x.size, 0, false)
		expectRange(t, x.g, 0, 0, false)
		expectRange(t, x.g, -1, 2, false)
	}
}

// P21.1: numbers whose sum is no int, and geometries without a block.
func TestRangeNone(t *testing.T) {
	wild := []int{math.MinInt, math.MinInt + 1, math.MinInt + 75, -1, 1 << 32, 1 << 62, math.MaxInt - 1, math.MaxInt}
	for _, n := range wild {
		for _, other := range append([]int{0, 1, 2, 73, 74, 75}, wild...) {
			expectRange(t, whole, n, other, false)
			expectRange(t, whole, other, n, false)
		}
	}
	for _, g := range invalid {
		for _, n := range append([]int{0, 1, 2}, wild...) {
			expectRange(t, g, 0, n, false)
			expectRange(t, g, n, 1, false)
			expectRange(t, g, n, 0, false)
		}
	}
}

func expectEnough(t *testing.T, g api.Geometry, want bool, live ...int) {
	t.Helper()
	if got := Enough(g, live); got != want {
		t.Errorf("Enough(%v, %v) = %v", g, live, got)
	}
}

// P21.2: one zone that leaves 8 blocks is enough, whichever it is: 37 writes have 44 blocks, and 38 have 45.
func TestEnough(t *testing.T) {
	expectEnough(t, whole, true, 0, 0, 0)
	expectEnough(t, whole, true, 37, 38, 38)
	expectEnough(t, whole, true, 38, 37, 38)
	expectEnough(t, whole, true, 38, 38, 37)
	expectEnough(t, whole, false, 38, 38, 38)
	expectEnough(t, whole, false, 44, 52, 38)
	expectEnough(t, whole, true, 37, 37, 37)
	expectEnough(t, whole, true, 1000, 1<<20, 12)
}

// P21.2: a zone with more than 2^20 entries is not one, though layer 20's Pack is 0 for it.
func TestEnoughMany(t *testing.T) {
	for _, n := range []int{1<<20 - 1, 1 << 20, 1<<20 + 1, 1<<20 + 2, 1 << 32, 1<<32 + 1, 1 << 62, math.MaxInt - 1, math.MaxInt} {
		expectEnough(t, whole, false, n, n, n)
		expectEnough(t, whole, false, 38, n, 38)
		expectEnough(t, whole, true, n, n, 37)
		expectEnough(t, whole, true, 0, n, n)
	}
}

// P21.2: the greatest number that is enough, and the one after it, for each zone of each geometry.
func TestEnoughEdges(t *testing.T) {
	for _, x := range valid {
		n := 0
		for packed(n+1)+8 <= x.block {
			n++
		}
		for z := range x.zones {
			live := slices.Repeat([]int{n + 1}, x.zones)
			expectEnough(t, x.g, false, live...)
			live[z] = n
			expectEnough(t, x.g, true, live...)
			live[z] = 0
			expectEnough(t, x.g, true, live...)
		}
	}
}

// P21.2: false if there are not as many numbers as logical zones, or one is negative, also if another one is enough.
func TestEnoughWrong(t *testing.T) {
	expectEnough(t, whole, false)
	expectEnough(t, whole, false, []int{}...)
	expectEnough(t, whole, false, 0)
	expectEnough(t, whole, false, 0, 0)
	expectEnough(t, whole, false, 0, 0, 0, 0)
	expectEnough(t, whole, false, make([]int, 6)...)
	for _, n := range []int{-1, -2, -38, math.MinInt, math.MinInt + 1} {
		expectEnough(t, whole, false, n, 0, 0)
		expectEnough(t, whole, false, 0, n, 0)
		expectEnough(t, whole, false, 0, 0, n)
		expectEnough(t, whole, false, n, 38, 38)
		expectEnough(t, whole, false, n, n, n)
	}
}

// P21.2: false for a geometry that is not valid, however many numbers there are.
func TestEnoughInvalid(t *testing.T) {
	for _, g := range invalid {
		for n := range 70 {
			expectEnough(t, g, false, make([]int, n)...)
		}
	}
}

// Arguments are not modified, nor is their spare capacity.
func TestArguments(t *testing.T) {
	all := []int{40, 12, 39, -1, 5}
	live := slices.Clone(all)
	expectEnough(t, whole, true, live[:3]...)
	if !slices.Equal(live, all) {
		t.Error(live)
	}
}

// enough is P21.2 for a valid geometry with zones of so many blocks, and numbers that are not negative.
func enough(live []int, capacity int) bool {
	for _, n := range live {
		if n <= 1<<20 && capacity-packed(n) >= 8 {
			return true
		}
	}
	return false
}

// P21.2: drawn numbers about the one up to which a zone is enough.
func TestEnoughDrawn(t *testing.T) {
	d := draws(1)
	for range 200 {
		for _, x := range valid {
			live := make([]int, x.zones)
			for i := range live {
				live[i] = max(0, x.block*6/7-d.next(10)+d.next(1+d.next(100)))
			}
			expectEnough(t, x.g, enough(live, x.block), live...)
		}
	}
}

// P21.3: if all zones but one together have at most Size entries, Enough is true, however these are distributed and whatever
// the one has; and Size could not be greater by one for each of them.
func TestEnoughFollows(t *testing.T) {
	d := draws(2)
	for _, x := range valid {
		most := x.size / (x.zones - 1)
		for z := range x.zones {
			live := slices.Repeat([]int{most}, x.zones)
			for _, n := range []int{0, most, most + 1, x.block, 1 << 20, 1<<20 + 1, math.MaxInt} {
				live[z] = n
				expectEnough(t, x.g, true, live...)
			}
			live = slices.Repeat([]int{most + 1}, x.zones)
			expectEnough(t, x.g, false, live...)
		}
		for range 200 {
			live := make([]int, x.zones)
			one := d.next(x.zones)
			left := x.size
			for left > 0 {
				z, n := d.next(x.zones), 1+d.next(min(left, 2*most))
				if z != one {
					live[z] += n
					left -= n
				}
			}
			live[one] = d.next(2) * math.MaxInt
			expectEnough(t, x.g, true, live...)
		}
	}
}

// P21.3: what Enough is true for can be copied into an empty zone, and a group of MaxEntry writes fits after it.
func TestGroupFits(t *testing.T) {
	writes := make([]group.Entry, api.MaxEntry)
	for _, x := range valid {
		for n := range x.block {
			live := slices.Repeat([]int{math.MaxInt}, x.zones)
			live[x.zones-1] = n
			if Enough(x.g, live) && packed(n)+group.Blocks(writes) > x.block {
				t.Errorf("%v: %d entries", x.g, n)
			}
		}
		if n := Entries(x.block - 8); packed(n)+group.Blocks(writes) > x.block {
			t.Errorf("%v: %d entries", x.g, n)
		}
	}
}
