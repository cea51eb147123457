package mend

import (
	"math"
	"slices"
	"testing"

	"corbel/api"
	"corbel/plan"
)

// least is the least geometry: its two logical zones have four rows.
var least = api.Geometry{Drives: 3, Zones: 5, Blocks: 4, Open: 1, Active: 1}

// small has three logical zones of 52 blocks.
var small = api.Geometry{Drives: 3, Zones: 6, Blocks: 26, Open: 2, Active: 6}

// badGeometries are each one number away from a valid one.
var badGeometries = []api.Geometry{
	{},
	{Drives: 2, Zones: 6, Blocks: 26, Open: 2, Active: 6},
	{Drives: 17, Zones: 6, Blocks: 26, Open: 2, Active: 6},
	{Drives: 3, Zones: 4, Blocks: 26, Open: 2, Active: 4},
	{Drives: 3, Zones: 65, Blocks: 26, Open: 2, Active: 6},
	{Drives: 3, Zones: 6, Blocks: 3, Open: 2, Active: 6},
	{Drives: 3, Zones: 6, Blocks: 257, Open: 2, Active: 6},
	{Drives: 3, Zones: 6, Blocks: 26, Open: 0, Active: 6},
	{Drives: 3, Zones: 6, Blocks: 26, Open: 3, Active: 2},
	{Drives: 3, Zones: 6, Blocks: 26, Open: 2, Active: 7},
	{Drives: 0, Zones: 6, Blocks: 26, Open: 2, Active: 6},
	{Drives: 1, Zones: 6, Blocks: 26, Open: 2, Active: 6},
	{Drives: -3, Zones: 6, Blocks: 26, Open: 2, Active: 6},
	{Drives: math.MinInt, Zones: math.MinInt, Blocks: math.MinInt, Open: math.MinInt, Active: math.MinInt},
	{Drives: math.MaxInt, Zones: math.MaxInt, Blocks: math.MaxInt, Open: math.MaxInt, Active: math.MaxInt},
}

// wild are numbers that are no zone, no slot and no number of blocks; -1 is no missing slot, but a valid one.
var wild = []int{-1, -2, -64, math.MinInt, math.MinInt + 1, 1 << 20, 1 << 32, 1 << 40, 1 << 62, math.MaxInt - 1, math.MaxInt}

// draws is a row of numbers that repeat in no short period.
type draws uint64

func (d *draws) from(least, greatest int) int {
	*d = *d*6364136223846793005 + 1442695040888963407
	return least + int(uint64(*d)>>33)%(greatest-least+1)
}

// wantOf counts what each slot's drive has of the first told blocks: these, and the parities of the full rows.
func wantOf(g api.Geometry, zone, told int) []int {
	l := make([]int, g.Drives)
	for block := range told {
		row, k := block/(g.Drives-1), block%(g.Drives-1)
		l[(zone+row+1+k)%g.Drives]++
		if k == g.Drives-2 {
			l[(zone+row)%g.Drives]++
		}
	}
	return l
}

// deedOf is Decide sentence by sentence, for arguments that are possible.
func deedOf(g api.Geometry, zone, told int, lengths []int, missing int) Deed {
	want := wantOf(g, zone, told)
	more, less, short := false, 0, 0
	for slot := range lengths {
		switch {
		case slot == missing || lengths[slot] == want[slot]:
		case lengths[slot] > want[slot]:
			more = true
		default:
			less, short = less+1, slot
		}
	}
	full := told / (g.Drives - 1)
	switch {
	case !more && less == 0:
		return Deed{}
	case told == 0:
		return Deed{Kind: 3}
	case more:
		return Deed{Kind: 2}
	case less == 1 && lengths[short] == want[short]-1 && full > 0 && short == (zone+full-1)%g.Drives:
		return Deed{Kind: 1, Slot: short, Row: full - 1}
	}
	return Deed{Kind: 2}
}

func expect(t *testing.T, g api.Geometry, zone, told int, lengths []int, missing int, want Deed) {
	t.Helper()
	if got, e := Decide(g, zone, told, lengths, missing); e != api.OK || got != want {
		t.Fatalf("%+v, zone %d, told %d, lengths %v, missing %d: %+v, %d, want %+v", g, zone, told, lengths, missing, got, e, want)
	}
}

func expectArg(t *testing.T, what string, g api.Geometry, zone, told int, lengths []int, missing int) {
	t.Helper()
	if got, e := Decide(g, zone, told, lengths, missing); e != api.ErrArg || got != (Deed{}) {
		t.Errorf("%s: %+v, zone %d, told %d, lengths %v, missing %d: %+v, %d", what, g, zone, told, lengths, missing, got, e)
	}
}

// P15.1: the kinds have the numbers of the document.
func TestKinds(t *testing.T) {
	if Keep != 0 || Parity != 1 || Move != 2 || Clear != 3 {
		t.Error(Keep, Parity, Move, Clear)
	}
}

// P15.1: each deed and its edges. In the rows 0, 1, 2 of zone 0 the parity is on the slots 0, 1, 2; block 0 is on slot 1,
// blocks 1 and 2 are on slot 2.
func TestDecide(t *testing.T) {
	keep, move, empty := Deed{Kind: 0}, Deed{Kind: 2}, Deed{Kind: 3}
	parity := func(slot, row int) Deed { return Deed{Kind: 1, Slot: slot, Row: row} }
	for _, c := range []struct {
		name    string
		zone    int
		told    int
		lengths []int
		missing int
		want    Deed
	}{
		{"the document's first example", 0, 2, []int{0, 1, 1}, -1, parity(0, 0)},
		{"the document's second example", 0, 1, []int{1, 1, 0}, -1, move},
		{"nothing", 0, 0, []int{0, 0, 0}, -1, keep},
		{"nothing is told, but there is a block", 0, 0, []int{0, 0, 1}, -1, empty},
		{"nothing is told, all slots have something", 0, 0, []int{26, 1, 9}, -1, empty},
		{"nothing is told, the missing slot alone has something", 0, 0, []int{0, 9, 0}, 1, keep},
		{"nothing is told, another slot has something", 0, 0, []int{0, 9, 1}, 1, empty},
		{"one block", 0, 1, []int{0, 1, 0}, -1, keep},
		{"one block that is not there: no row is full", 0, 1, []int{0, 0, 0}, -1, move},
		{"one block of the missing slot", 0, 1, []int{0, 0, 0}, 1, keep},
		{"one block and the next one", 0, 1, []int{0, 1, 1}, 0, move},
		{"a row", 0, 2, []int{1, 1, 1}, -1, keep},
		{"a row without the parity of the missing slot", 0, 2, []int{0, 1, 1}, 0, keep},
		{"a row without its parity, another slot is missing", 0, 2, []int{0, 0, 1}, 1, parity(0, 0)},
		{"the same, the missing slot has more", 0, 2, []int{0, 7, 1}, 1, parity(0, 0)},
		{"a row without its first block", 0, 2, []int{1, 0, 1}, -1, move},
		{"a row without its last block", 0, 2, []int{1, 1, 0}, -1, move},
		{"a row without its parity and a block", 0, 2, []int{0, 0, 1}, -1, move},
		{"a row without its parity, with one more block", 0, 2, []int{0, 1, 2}, -1, move},
		{"the same, but it is the missing slot that has it", 0, 2, []int{0, 1, 2}, 2, parity(0, 0)},
		{"a row with one more parity", 0, 2, []int{2, 1, 1}, -1, move},
		{"a row and a block, without the parity", 0, 3, []int{0, 1, 2}, -1, parity(0, 0)},
		{"a row and a block, without the block", 0, 3, []int{1, 1, 1}, -1, move},
		{"two rows", 0, 4, []int{2, 2, 2}, -1, keep},
		{"two rows without the last parity", 0, 4, []int{2, 1, 2}, -1, parity(1, 1)},
		{"two rows without the last two blocks of its slot", 0, 4, []int{2, 0, 2}, -1, move},
		{"two rows without a block of row 0's parity's slot", 0, 4, []int{1, 2, 2}, -1, move},
		{"two rows without the parity in zone 1", 1, 4, []int{2, 2, 1}, -1, parity(2, 1)},
		{"two rows without slot 1's block in zone 1", 1, 4, []int{2, 1, 2}, -1, move},
		{"two rows without the parity in zone 2", 2, 4, []int{1, 2, 2}, -1, parity(0, 1)},
		{"four rows without the last parity", 0, 8, []int{3, 4, 4}, -1, parity(0, 3)},
		{"all", 0, 52, []int{26, 26, 26}, -1, keep},
		{"all but the last parity", 0, 52, []int{26, 25, 26}, -1, parity(1, 25)},
		{"all but the last parity in zone 2", 2, 52, []int{25, 26, 26}, -1, parity(0, 25)},
		{"all but the last block", 0, 51, []int{25, 25, 26}, -1, keep},
		{"all but the last block, without the parity before", 0, 51, []int{24, 25, 26}, -1, parity(0, 24)},
		{"all but the last block, with the last parity", 0, 51, []int{25, 26, 26}, -1, move},
		{"two slots have one less", 0, 52, []int{25, 25, 26}, -1, move},
		{"two slots have one less, one is missing", 0, 52, []int{25, 25, 26}, 0, parity(1, 25)},
		{"all of two slots", 0, 52, []int{0, 26, 26}, 0, keep},
		{"nothing is there", 0, 52, []int{0, 0, 0}, 0, move},
	} {
		t.Run(c.name, func(t *testing.T) { expect(t, small, c.zone, c.told, c.lengths, c.missing, c.want) })
	}
}

// P15.1: all lengths, with each number of blocks told and each slot missing or none.
func TestEachDecide(t *testing.T) {
	four := api.Geometry{Drives: 4, Zones: 6, Blocks: 4, Open: 1, Active: 1}
	for _, g := range []api.Geometry{least, four} {
		lengths := make([]int, g.Drives)
		var choose func(slot int)
		choose = func(slot int) {
			if slot < g.Drives {
				for lengths[slot] = 0; lengths[slot] <= g.Blocks; lengths[slot]++ {
					choose(slot + 1)
				}
				return
			}
			for zone := range g.Zones - 3 {
				for told := range (g.Drives-1)*g.Blocks + 1 {
					for missing := -1; missing < g.Drives; missing++ {
						expect(t, g, zone, told, lengths, missing, deedOf(g, zone, told, lengths, missing))
					}
				}
			}
		}
		choose(0)
	}
}

// P15.1: lengths near those that are wanted, in geometries up to the greatest one.
func TestManyDecide(t *testing.T) {
	d := draws(1)
	var seen [4]int
	for range 20000 {
		g := api.Geometry{Drives: d.from(3, 16), Zones: d.from(5, 64), Blocks: d.from(4, 256), Open: 1, Active: 2}
		zone, told, missing := d.from(0, g.Zones-4), d.from(0, (g.Drives-1)*g.Blocks), d.from(-1, g.Drives-1)
		if d.from(0, 9) == 0 {
			told = 0
		}
		lengths := wantOf(g, zone, told)
		if row := told/(g.Drives-1) - 1; row >= 0 && d.from(0, 1) == 0 {
			lengths[(zone+row)%g.Drives]--
		}
		for range d.from(0, 2) {
			slot := d.from(0, g.Drives-1)
			lengths[slot] = min(g.Blocks, max(0, lengths[slot]+d.from(-1, 1)))
		}
		if missing >= 0 {
			lengths[missing] = d.from(0, g.Blocks)
		}
		want := deedOf(g, zone, told, lengths, missing)
		seen[want.Kind]++
		expect(t, g, zone, told, lengths, missing, want)
	}
	if slices.Contains(seen[:], 0) {
		t.Errorf("deeds %v", seen)
	}
}

// P15.1: a slot that lacks the parity of the last full row never has a block behind it: what Parity writes is all it lacks.
func TestParityIsAll(t *testing.T) {
	for _, g := range []api.Geometry{least, small, {Drives: 16, Zones: 64, Blocks: 20, Open: 1, Active: 1}} {
		for zone := range g.Zones - 3 {
			for told := g.Drives - 1; told <= (g.Drives-1)*g.Blocks; told++ {
				row := told/(g.Drives-1) - 1
				slot := (zone + row) % g.Drives
				lengths := plan.Lengths(g, zone, told)
				lengths[slot]--
				expect(t, g, zone, told, lengths, -1, Deed{Kind: 1, Slot: slot, Row: row})
				if lengths[slot] != row {
					t.Fatalf("%+v, zone %d, told %d: slot %d has %d, row %d", g, zone, told, slot, lengths[slot], row)
				}
			}
		}
	}
}

// P15.1: a geometry that is not valid, whatever else is passed.
func TestWrongGeometry(t *testing.T) {
	for _, g := range badGeometries {
		for _, n := range []int{0, 1, 2, 3, 16, 17} {
			for missing := -1; missing < 3; missing++ {
				expectArg(t, "geometry", g, 0, 0, make([]int, n), missing)
			}
			expectArg(t, "geometry", g, -1, -1, make([]int, n), -2)
		}
		for _, n := range wild {
			expectArg(t, "geometry", g, n, n, []int{n, n, n}, n)
		}
	}
}

// P15.1: a zone that there is not, and a number of blocks that it can't have.
func TestWrongZone(t *testing.T) {
	for _, missing := range []int{-1, 0, 1, 2} {
		for _, zone := range append([]int{3, 4, 6}, wild...) {
			expectArg(t, "zone", small, zone, 0, []int{0, 0, 0}, missing)
			expectArg(t, "zone", small, zone, 52, []int{26, 26, 26}, missing)
		}
		for _, told := range append([]int{53, 54, 78}, wild...) {
			expectArg(t, "told", small, 0, told, []int{0, 0, 0}, missing)
			expectArg(t, "told", small, 2, told, []int{26, 26, 26}, missing)
		}
	}
}

// P15.1: lengths that are too few, too many, or not possible, also that of the missing slot.
func TestWrongLengths(t *testing.T) {
	for missing := -1; missing < 3; missing++ {
		for _, l := range [][]int{nil, {}, {0}, {0, 0}, {0, 0, 0, 0}, {0, 0, 0, 0, 0, 0}} {
			expectArg(t, "number of lengths", small, 0, 0, l, missing)
			expectArg(t, "number of lengths", small, 0, 1, l, missing)
		}
		for slot := range 3 {
			for _, n := range append([]int{27, 28, 52}, wild...) {
				for told, usual := range map[int]int{0: 0, 2: 1, 52: 26} {
					l := []int{usual, usual, usual}
					l[slot] = n
					expectArg(t, "length", small, 0, told, l, missing)
				}
			}
		}
	}
}

// P15.1: a missing slot that there is not.
func TestWrongMissing(t *testing.T) {
	for _, missing := range append([]int{3, 4, 6}, wild[1:]...) {
		expectArg(t, "missing", small, 0, 0, []int{0, 0, 0}, missing)
		expectArg(t, "missing", small, 0, 0, []int{1, 0, 0}, missing)
		expectArg(t, "missing", small, 0, 52, []int{26, 26, 26}, missing)
	}
}

// P15.1: the least and the greatest of what is valid.
func TestValidEdges(t *testing.T) {
	greatest := api.Geometry{Drives: 16, Zones: 64, Blocks: 256, Open: 64, Active: 64}
	for _, g := range []api.Geometry{least, small, greatest} {
		for missing := -1; missing < g.Drives; missing++ {
			for _, zone := range []int{0, g.Zones - 4} {
				empty, full := make([]int, g.Drives), slices.Repeat([]int{g.Blocks}, g.Drives)
				all := (g.Drives - 1) * g.Blocks
				expect(t, g, zone, 0, empty, missing, Deed{Kind: 0})
				expect(t, g, zone, 0, full, missing, Deed{Kind: 3})
				expect(t, g, zone, all, full, missing, Deed{Kind: 0})
				expect(t, g, zone, all, empty, missing, Deed{Kind: 2})
			}
		}
	}
}

// P15.1: the lengths that are passed stay as they were, with their spare capacity.
func TestLeavesLengths(t *testing.T) {
	l := []int{0, 1, 2, 7, 8}
	for missing := -1; missing < 3; missing++ {
		for told := range 53 {
			Decide(small, 0, told, l[:3], missing)
		}
	}
	if !slices.Equal(l, []int{0, 1, 2, 7, 8}) {
		t.Error(l)
	}
}
