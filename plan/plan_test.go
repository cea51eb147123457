package plan

import (
	"math"
	"slices"
	"testing"

	"corbel/api"
)

// small has three logical zones of 52 blocks.
var small = api.Geometry{Drives: 3, Zones: 6, Blocks: 26, Open: 2, Active: 6}

// few are valid geometries of so few blocks that each write of them can be tried.
var few = []api.Geometry{
	{Drives: 3, Zones: 5, Blocks: 4, Open: 1, Active: 1},
	{Drives: 4, Zones: 8, Blocks: 5, Open: 2, Active: 3},
	{Drives: 5, Zones: 9, Blocks: 4, Open: 9, Active: 9},
	{Drives: 7, Zones: 12, Blocks: 6, Open: 1, Active: 12},
	{Drives: 16, Zones: 5, Blocks: 4, Open: 1, Active: 5},
}

// many are valid geometries up to the greatest one.
var many = []api.Geometry{
	small,
	{Drives: 3, Zones: 64, Blocks: 256, Open: 1, Active: 64},
	{Drives: 6, Zones: 20, Blocks: 100, Open: 3, Active: 7},
	{Drives: 15, Zones: 63, Blocks: 255, Open: 1, Active: 63},
	{Drives: 16, Zones: 64, Blocks: 256, Open: 64, Active: 64},
}

// badGeometries are each one number away from a valid one.
var badGeometries = []api.Geometry{
	{},
	{Drives: 2, Zones: 6, Blocks: 26, Open: 2, Active: 6},
	{Drives: 17, Zones: 6, Blocks: 26, Open: 2, Active: 6},
	{Drives: 3, Zones: 4, Blocks: 26, Open: 2, Active: 4},
	{Drives: 3, Zones: 65, Blocks: 26, Open: 2, Active: 6},
	{Drives: 3, Zones: 6, Blocks: 3, Open: 2, Active: 6},
	{Drives: 3, Zones: 6, Blocks: 257, Open: 2, Active: 6},
	{Drives: 3, Zones: 6, Blocks: 26, Open: 0, Active: 6},
	{Drives: 3, Zones: 6, Blocks: 26, Open: 3, Active: 2},
	{Drives: 3, Zones: 6, Blocks: 26, Open: 2, Active: 7},
	{Drives: 0, Zones: 6, Blocks: 26, Open: 2, Active: 6},
	{Drives: 1, Zones: 6, Blocks: 26, Open: 2, Active: 6},
	{Drives: -3, Zones: 6, Blocks: 26, Open: 2, Active: 6},
	{Drives: math.MinInt, Zones: math.MinInt, Blocks: math.MinInt, Open: math.MinInt, Active: math.MinInt},
	{Drives: math.MaxInt, Zones: math.MaxInt, Blocks: math.MaxInt, Open: math.MaxInt, Active: math.MaxInt},
}

// wild are numbers that are no zone and no number of blocks.
var wild = []int{-1, -2, -64, math.MinInt, math.MinInt + 1, 1 << 20, 1 << 32, 1 << 40, 1 << 62, math.MaxInt - 1, math.MaxInt}

// draws is a row of numbers that repeat in no short period.
type draws uint64

func (d *draws) from(least, greatest int) int {
	*d = *d*6364136223846793005 + 1442695040888963407
	return least + int(uint64(*d)>>33)%(greatest-least+1)
}

func zonesOf(g api.Geometry) int    { return g.Zones - 3 }
func capacityOf(g api.Geometry) int { return (g.Drives - 1) * g.Blocks }

// writeOf is Write block by block, as the chapters 4 and 13 say it, for a write that is possible.
func writeOf(g api.Geometry, zone, from, n int) []Step {
	var l []Step
	perRow := g.Drives - 1
	for block := from; block < from+n; block++ {
		row, k := block/perRow, block%perRow
		parity := (zone + row) % g.Drives
		l = append(l, Step{Kind: 1, Slot: (parity + 1 + k) % g.Drives, Row: row, Block: block})
		if k == perRow-1 {
			l = append(l, Step{Kind: 2, Slot: parity, Row: row})
		} else if block == from+n-1 {
			l = append(l, Step{Kind: 3, Slot: parity, Row: row, Count: k + 1})
		}
	}
	return l
}

// lengthsOf counts what the steps of one write of the first blocks bring to each slot's drive.
func lengthsOf(g api.Geometry, zone, written int) []int {
	l := make([]int, g.Drives)
	for _, s := range writeOf(g, zone, 0, written) {
		if s.Kind != 3 {
			l[s.Slot]++
		}
	}
	return l
}

func expectWrite(t *testing.T, g api.Geometry, zone, from, n int) {
	t.Helper()
	got, e := Write(g, zone, from, n)
	if want := writeOf(g, zone, from, n); e != api.OK || !slices.Equal(got, want) {
		t.Fatalf("%+v: Write(%d, %d, %d) = %v, %d, want %v", g, zone, from, n, got, e, want)
	}
}

func expectLengths(t *testing.T, g api.Geometry, zone, written int) {
	t.Helper()
	if got, want := Lengths(g, zone, written), lengthsOf(g, zone, written); !slices.Equal(got, want) {
		t.Fatalf("%+v: Lengths(%d, %d) = %v, want %v", g, zone, written, got, want)
	}
}

// P13.1: the kinds have the numbers of the document.
func TestKinds(t *testing.T) {
	if Data != 1 || Parity != 2 || Note != 3 {
		t.Errorf("Data %d, Parity %d, Note %d", Data, Parity, Note)
	}
}

// P13.1: writes whose steps are written out.
func TestWrite(t *testing.T) {
	four := api.Geometry{Drives: 4, Zones: 8, Blocks: 5, Open: 2, Active: 3}
	for _, c := range []struct {
		g             api.Geometry
		zone, from, n int
		want          []Step
	}{
		{small, 0, 0, 3, []Step{{Kind: 1, Slot: 1}, {Kind: 1, Slot: 2, Block: 1}, {Kind: 2}, {Kind: 1, Slot: 2, Row: 1, Block: 2}, {Kind: 3, Slot: 1, Row: 1, Count: 1}}},
		{small, 0, 0, 1, []Step{{Kind: 1, Slot: 1}, {Kind: 3, Count: 1}}},
		{small, 0, 1, 1, []Step{{Kind: 1, Slot: 2, Block: 1}, {Kind: 2}}},
		{small, 0, 0, 2, []Step{{Kind: 1, Slot: 1}, {Kind: 1, Slot: 2, Block: 1}, {Kind: 2}}},
		{small, 0, 1, 2, []Step{{Kind: 1, Slot: 2, Block: 1}, {Kind: 2}, {Kind: 1, Slot: 2, Row: 1, Block: 2}, {Kind: 3, Slot: 1, Row: 1, Count: 1}}},
		{small, 1, 0, 1, []Step{{Kind: 1, Slot: 2}, {Kind: 3, Slot: 1, Count: 1}}},
		{small, 2, 51, 1, []Step{{Kind: 1, Slot: 2, Row: 25, Block: 51}, {Kind: 2, Row: 25}}},
		{small, 2, 50, 1, []Step{{Kind: 1, Slot: 1, Row: 25, Block: 50}, {Kind: 3, Row: 25, Count: 1}}},
		{four, 1, 4, 1, []Step{{Kind: 1, Slot: 0, Row: 1, Block: 4}, {Kind: 3, Slot: 2, Row: 1, Count: 2}}},
		{four, 1, 4, 3, []Step{{Kind: 1, Slot: 0, Row: 1, Block: 4}, {Kind: 1, Slot: 1, Row: 1, Block: 5}, {Kind: 2, Slot: 2, Row: 1}, {Kind: 1, Slot: 0, Row: 2, Block: 6}, {Kind: 3, Slot: 3, Row: 2, Count: 1}}},
	} {
		if got, e := Write(c.g, c.zone, c.from, c.n); e != api.OK || !slices.Equal(got, c.want) {
			t.Errorf("%+v: Write(%d, %d, %d) = %v, %d, want %v", c.g, c.zone, c.from, c.n, got, e, c.want)
		}
	}
}

// P13.1: every write that is possible, and from each block on the first ones that are not.
func TestEachWrite(t *testing.T) {
	for _, g := range few {
		capacity := capacityOf(g)
		for zone := range zonesOf(g) {
			for from := range capacity {
				for n := 1; n <= capacity-from; n++ {
					expectWrite(t, g, zone, from, n)
				}
				for n := capacity - from + 1; n < capacity+3; n++ {
					expectNoWrite(t, g, zone, from, n, api.ErrRange)
				}
			}
		}
	}
}

// P13.1: writes of larger geometries, with those of whole zones and of the last blocks of them.
func TestManyWrites(t *testing.T) {
	d := draws(1)
	for _, g := range many {
		capacity, last := capacityOf(g), zonesOf(g)-1
		for _, zone := range []int{0, 1, last} {
			expectWrite(t, g, zone, 0, capacity)
			expectWrite(t, g, zone, 0, capacity-1)
			expectWrite(t, g, zone, 1, capacity-1)
			expectWrite(t, g, zone, capacity-1, 1)
			expectWrite(t, g, zone, capacity-2, 1)
		}
		for range 200 {
			from := d.from(0, capacity-1)
			expectWrite(t, g, d.from(0, last), from, d.from(1, capacity-from))
			expectWrite(t, g, d.from(0, last), from, d.from(1, min(20, capacity-from)))
		}
	}
}

// P13.1: several writes together bring the same blocks and parities to the drives as one.
func TestWritesTogether(t *testing.T) {
	d := draws(2)
	for _, g := range slices.Concat(few, many) {
		zone, capacity := d.from(0, zonesOf(g)-1), capacityOf(g)
		var l []Step
		for from := 0; from < capacity; {
			n := d.from(1, min(3*g.Drives, capacity-from))
			steps, e := Write(g, zone, from, n)
			if e != api.OK {
				t.Fatalf("%+v: Write(%d, %d, %d): %d", g, zone, from, n, e)
			}
			l, from = append(l, steps...), from+n
		}
		l = slices.DeleteFunc(l, func(s Step) bool { return s.Kind == Note })
		if whole, _ := Write(g, zone, 0, capacity); !slices.Equal(l, whole) {
			t.Errorf("%+v: the steps differ from those of one write", g)
		}
	}
}

func expectNoWrite(t *testing.T, g api.Geometry, zone, from, n int, want api.Errno) {
	t.Helper()
	if got, e := Write(g, zone, from, n); e != want || len(got) != 0 {
		t.Fatalf("%+v: Write(%d, %d, %d) = %v, %d, want %d", g, zone, from, n, got, e, want)
	}
}

// P13.1: ErrArg for a geometry that is not valid, also if nothing else is possible.
func TestWriteBadGeometry(t *testing.T) {
	for _, g := range badGeometries {
		expectNoWrite(t, g, 0, 0, 1, api.ErrArg)
		for _, n := range append([]int{0, 1, 5}, wild...) {
			expectNoWrite(t, g, n, 0, 1, api.ErrArg)
			expectNoWrite(t, g, 0, n, 1, api.ErrArg)
			expectNoWrite(t, g, 0, 0, n, api.ErrArg)
			expectNoWrite(t, g, n, n, n, api.ErrArg)
		}
	}
}

// P13.1: ErrRange for a zone that there is not, a from or an n that is not possible, and a sum that is too great or wraps
// round.
func TestWriteRange(t *testing.T) {
	for _, g := range slices.Concat(few, many) {
		capacity, zones := capacityOf(g), zonesOf(g)
		for _, zone := range append([]int{zones, zones + 1, g.Zones}, wild...) {
			expectNoWrite(t, g, zone, 0, 1, api.ErrRange)
		}
		for _, n := range append([]int{0, capacity + 1, capacity + 2}, wild...) {
			expectNoWrite(t, g, 0, 0, n, api.ErrRange)
			expectNoWrite(t, g, zones-1, capacity-1, n, api.ErrRange)
		}
		for _, from := range append([]int{capacity, capacity + 1}, wild...) {
			expectNoWrite(t, g, 0, from, 1, api.ErrRange)
			expectNoWrite(t, g, zones-1, from, 0, api.ErrRange)
			for _, n := range append([]int{-from, capacity - from, 1 - from, 2}, wild...) {
				expectNoWrite(t, g, 0, from, n, api.ErrRange)
			}
		}
		for from := range capacity + 1 {
			expectNoWrite(t, g, 0, from, capacity-from+1, api.ErrRange)
			expectNoWrite(t, g, 0, from, math.MaxInt-from, api.ErrRange)
			expectNoWrite(t, g, 0, from, math.MaxInt-from+1, api.ErrRange)
			expectNoWrite(t, g, 0, from, 0, api.ErrRange)
		}
	}
}

// P13.1: the steps of one call share nothing with those of another.
func TestWriteIsNew(t *testing.T) {
	a, _ := Write(small, 0, 0, 5)
	b, _ := Write(small, 0, 0, 5)
	for i := range a {
		a[i] = Step{}
	}
	if !slices.Equal(b, writeOf(small, 0, 0, 5)) {
		t.Errorf("the steps became %v", b)
	}
	expectWrite(t, small, 0, 0, 5)
}

// P13.2: lengths that are written out.
func TestLengths(t *testing.T) {
	four := api.Geometry{Drives: 4, Zones: 8, Blocks: 5, Open: 2, Active: 3}
	for _, c := range []struct {
		g             api.Geometry
		zone, written int
		want          []int
	}{
		{small, 0, 0, []int{0, 0, 0}},
		{small, 0, 1, []int{0, 1, 0}},
		{small, 0, 2, []int{1, 1, 1}},
		{small, 0, 3, []int{1, 1, 2}},
		{small, 0, 4, []int{2, 2, 2}},
		{small, 0, 5, []int{3, 2, 2}},
		{small, 0, 51, []int{25, 25, 26}},
		{small, 0, 52, []int{26, 26, 26}},
		{small, 1, 1, []int{0, 0, 1}},
		{small, 2, 1, []int{1, 0, 0}},
		{four, 1, 1, []int{0, 0, 1, 0}},
		{four, 1, 2, []int{0, 0, 1, 1}},
		{four, 1, 3, []int{1, 1, 1, 1}},
		{four, 1, 5, []int{2, 1, 1, 2}},
	} {
		if got := Lengths(c.g, c.zone, c.written); !slices.Equal(got, c.want) {
			t.Errorf("%+v: Lengths(%d, %d) = %v, want %v", c.g, c.zone, c.written, got, c.want)
		}
	}
}

// P13.2: every number of blocks in every zone, held against the steps that write them.
func TestEachLengths(t *testing.T) {
	for _, g := range few {
		for zone := range zonesOf(g) {
			for written := range capacityOf(g) + 1 {
				expectLengths(t, g, zone, written)
			}
		}
	}
}

// P13.2: the lengths of larger geometries.
func TestManyLengths(t *testing.T) {
	d := draws(3)
	for _, g := range many {
		capacity, last := capacityOf(g), zonesOf(g)-1
		for _, zone := range []int{0, 1, last, d.from(0, last)} {
			for _, written := range []int{0, 1, g.Drives - 2, g.Drives - 1, g.Drives, capacity - g.Drives, capacity - 1, capacity} {
				expectLengths(t, g, zone, written)
			}
			for range 50 {
				expectLengths(t, g, zone, d.from(0, capacity))
			}
		}
	}
}

// P13.2: writes of any sizes together bring to each drive what Lengths tells, in the order of the rows.
func TestLengthsOfWrites(t *testing.T) {
	d := draws(4)
	for _, g := range slices.Concat(few, many) {
		zone, capacity := d.from(0, zonesOf(g)-1), capacityOf(g)
		got := make([]int, g.Drives)
		for from := 0; from < capacity; {
			n := d.from(1, min(3*g.Drives, capacity-from))
			steps, _ := Write(g, zone, from, n)
			for _, s := range steps {
				if s.Kind == Note {
					continue
				}
				if s.Row != got[s.Slot] {
					t.Fatalf("%+v: row %d is written to slot %d, which has %d", g, s.Row, s.Slot, got[s.Slot])
				}
				got[s.Slot]++
			}
			from += n
			if want := Lengths(g, zone, from); !slices.Equal(got, want) {
				t.Fatalf("%+v: Lengths(%d, %d) = %v, but %v were written", g, zone, from, want, got)
			}
		}
	}
}

// P13.2: an empty list for a geometry that is not valid, and for a zone or a number that there is not.
func TestLengthsWrong(t *testing.T) {
	expect := func(g api.Geometry, zone, written int) {
		if got := Lengths(g, zone, written); len(got) != 0 {
			t.Errorf("%+v: Lengths(%d, %d) = %v", g, zone, written, got)
		}
	}
	for _, g := range badGeometries {
		for _, n := range append([]int{0, 1, 2}, wild...) {
			expect(g, n, 0)
			expect(g, 0, n)
			expect(g, n, n)
		}
	}
	for _, g := range slices.Concat(few, many) {
		for _, zone := range append([]int{zonesOf(g), zonesOf(g) + 1, g.Zones}, wild...) {
			expect(g, zone, 0)
			expect(g, zone, 1)
			expect(g, zone, zone)
		}
		for _, written := range append([]int{capacityOf(g) + 1, capacityOf(g) + 2, g.Drives * g.Blocks}, wild...) {
			expect(g, 0, written)
			expect(g, zonesOf(g)-1, written)
		}
	}
}

// P13.2: the lengths of one call share nothing with those of another.
func TestLengthsAreNew(t *testing.T) {
	a, b := Lengths(small, 0, 3), Lengths(small, 0, 3)
	clear(a)
	if !slices.Equal(b, []int{1, 1, 2}) {
		t.Errorf("the lengths became %v", b)
	}
	expectLengths(t, small, 0, 3)
}
