package geom

import (
	"math"
	"testing"

	"corbel/api"
)

var small = api.Geometry{Drives: 3, Zones: 6, Blocks: 26, Open: 2, Active: 6}

// valid are geometries from the least to the greatest.
var valid = []api.Geometry{
	small,
	{Drives: 3, Zones: 5, Blocks: 4, Open: 1, Active: 1},
	{Drives: 4, Zones: 5, Blocks: 5, Open: 5, Active: 5},
	{Drives: 5, Zones: 12, Blocks: 33, Open: 3, Active: 7},
	{Drives: 15, Zones: 63, Blocks: 255, Open: 1, Active: 63},
	{Drives: 16, Zones: 64, Blocks: 4, Open: 64, Active: 64},
	{Drives: 16, Zones: 64, Blocks: 256, Open: 1, Active: 64},
}

// invalid are geometries of which one number is not possible, mostly by one.
var invalid = []api.Geometry{
	{},
	{Drives: 2, Zones: 6, Blocks: 26, Open: 2, Active: 6},
	{Drives: 1, Zones: 6, Blocks: 26, Open: 2, Active: 6},
	{Drives: 0, Zones: 6, Blocks: 26, Open: 2, Active: 6},
	{Drives: -3, Zones: 6, Blocks: 26, Open: 2, Active: 6},
	{Drives: 17, Zones: 6, Blocks: 26, Open: 2, Active: 6},
	{Drives: math.MaxInt, Zones: 6, Blocks: 26, Open: 2, Active: 6},
	{Drives: math.MinInt, Zones: 6, Blocks: 26, Open: 2, Active: 6},
	{Drives: 3, Zones: 4, Blocks: 26, Open: 2, Active: 4},
	{Drives: 3, Zones: 65, Blocks: 26, Open: 2, Active: 6},
	{Drives: 3, Zones: math.MaxInt, Blocks: 26, Open: 2, Active: 6},
	{Drives: 3, Zones: math.MinInt, Blocks: 26, Open: 2, Active: 6},
	{Drives: 3, Zones: 6, Blocks: 3, Open: 2, Active: 6},
	{Drives: 3, Zones: 6, Blocks: 0, Open: 2, Active: 6},
	{Drives: 3, Zones: 6, Blocks: -26, Open: 2, Active: 6},
	{Drives: 3, Zones: 6, Blocks: 257, Open: 2, Active: 6},
	{Drives: 3, Zones: 6, Blocks: math.MaxInt, Open: 2, Active: 6},
	{Drives: 3, Zones: 6, Blocks: math.MinInt, Open: 2, Active: 6},
	{Drives: 3, Zones: 6, Blocks: 26, Open: 0, Active: 6},
	{Drives: 3, Zones: 6, Blocks: 26, Open: -1, Active: 6},
	{Drives: 3, Zones: 6, Blocks: 26, Open: 0, Active: 0},
	{Drives: 3, Zones: 6, Blocks: 26, Open: 3, Active: 2},
	{Drives: 3, Zones: 6, Blocks: 26, Open: 7, Active: 7},
	{Drives: 3, Zones: 6, Blocks: 26, Open: 2, Active: 7},
	{Drives: 3, Zones: 6, Blocks: 26, Open: math.MinInt, Active: 6},
	{Drives: 3, Zones: 6, Blocks: 26, Open: 1, Active: math.MaxInt},
	{Drives: 3, Zones: 6, Blocks: 26, Open: math.MaxInt, Active: math.MaxInt},
}

// far are numbers that are no index of anything.
var far = []int{-1, -2, -64, math.MinInt, math.MinInt + 1, 1 << 16, 1 << 32, math.MaxInt - 1, math.MaxInt}

// P4.1: valid geometries, with the numbers of their logical zones and blocks.
func TestGood(t *testing.T) {
	zones := []int{3, 2, 2, 9, 60, 61, 61}
	blocks := []int{52, 8, 15, 132, 3570, 60, 3840}
	for i, g := range valid {
		if !Good(g) || Zones(g) != zones[i] || Capacity(g) != blocks[i] {
			t.Errorf("%+v: %v, %d zones of %d blocks", g, Good(g), Zones(g), Capacity(g))
		}
	}
}

// P4.1: each number up to its limits, and no further.
func TestGoodLimits(t *testing.T) {
	for n := -300; n < 600; n++ {
		for _, c := range []struct {
			name string
			g    api.Geometry
			want bool
		}{
			{"Drives", api.Geometry{Drives: n, Zones: 6, Blocks: 26, Open: 2, Active: 6}, n >= 3 && n <= 16},
			{"Zones", api.Geometry{Drives: 3, Zones: n, Blocks: 26, Open: 1, Active: 1}, n >= 5 && n <= 64},
			{"Blocks", api.Geometry{Drives: 3, Zones: 6, Blocks: n, Open: 2, Active: 6}, n >= 4 && n <= 256},
			{"Open", api.Geometry{Drives: 3, Zones: 9, Blocks: 26, Open: n, Active: 7}, n >= 1 && n <= 7},
			{"Active", api.Geometry{Drives: 3, Zones: 9, Blocks: 26, Open: 4, Active: n}, n >= 4 && n <= 9},
		} {
			if Good(c.g) != c.want {
				t.Errorf("%s %d: %v", c.name, n, Good(c.g))
			}
		}
	}
}

// P4.1: for a geometry that is not valid, there is nothing.
func TestInvalid(t *testing.T) {
	for _, g := range invalid {
		if Good(g) || Zones(g) != 0 || Capacity(g) != 0 {
			t.Errorf("%+v: %v, %d zones of %d blocks", g, Good(g), Zones(g), Capacity(g))
		}
		for _, n := range append([]int{0, 1, 2, 3, 25}, far...) {
			expectNoRow(t, g, 0, n)
			expectNoRow(t, g, n, 0)
			expectNoBlock(t, g, 0, n)
			expectNoBlock(t, g, n, 0)
			expectNoBack(t, g, 0, 0, n)
			expectNoBack(t, g, 0, n, 0)
			expectNoBack(t, g, n, 0, 1)
			expectNoSplit(t, g, n)
		}
	}
}

func expectNoRow(t *testing.T, g api.Geometry, zone, row int) {
	t.Helper()
	if got := Parity(g, zone, row); got != -1 {
		t.Errorf("%+v: Parity(%d, %d) = %d", g, zone, row, got)
	}
}

func expectNoBlock(t *testing.T, g api.Geometry, zone, block int) {
	t.Helper()
	if row, drive, ok := Place(g, zone, block); row != 0 || drive != 0 || ok {
		t.Errorf("%+v: Place(%d, %d) = %d, %d, %v", g, zone, block, row, drive, ok)
	}
}

func expectNoBack(t *testing.T, g api.Geometry, zone, row, drive int) {
	t.Helper()
	if block, ok := Back(g, zone, row, drive); block != 0 || ok {
		t.Errorf("%+v: Back(%d, %d, %d) = %d, %v", g, zone, row, drive, block, ok)
	}
}

func expectNoSplit(t *testing.T, g api.Geometry, n int) {
	t.Helper()
	if zone, block, ok := Split(g, n); zone != 0 || block != 0 || ok {
		t.Errorf("%+v: Split(%d) = %d, %d, %v", g, n, zone, block, ok)
	}
}

// P4.2: the document's example, and a zone and a row further on.
func TestExample(t *testing.T) {
	for _, c := range []struct{ zone, row, parity, first, second int }{
		{0, 0, 0, 1, 2},
		{0, 1, 1, 2, 0},
		{0, 2, 2, 0, 1},
		{0, 25, 1, 2, 0},
		{1, 0, 1, 2, 0},
		{2, 0, 2, 0, 1},
		{2, 25, 0, 1, 2},
	} {
		if got := Parity(small, c.zone, c.row); got != c.parity {
			t.Errorf("the parity of row %d of zone %d is on drive %d", c.row, c.zone, got)
		}
		for k, drive := range []int{c.first, c.second} {
			block := c.row*2 + k
			if r, d, ok := Place(small, c.zone, block); r != c.row || d != drive || !ok {
				t.Errorf("block %d of zone %d is in row %d on drive %d, %v", block, c.zone, r, d, ok)
			}
			if b, ok := Back(small, c.zone, c.row, drive); b != block || !ok {
				t.Errorf("drive %d has block %d in row %d of zone %d, %v", drive, b, c.row, c.zone, ok)
			}
		}
		expectNoBack(t, small, c.zone, c.row, c.parity)
	}
}

// P4.2: every block of every zone has a place of its own, and the parity has the one that is left.
func TestPlaces(t *testing.T) {
	for _, g := range valid {
		for zone := range Zones(g) {
			checkZone(t, g, zone)
		}
	}
}

func checkZone(t *testing.T, g api.Geometry, zone int) {
	t.Helper()
	perRow, block := g.Drives-1, 0
	for row := range g.Blocks {
		parity := (zone + row) % g.Drives
		if got := Parity(g, zone, row); got != parity {
			t.Fatalf("%+v: Parity(%d, %d) = %d", g, zone, row, got)
		}
		expectNoBack(t, g, zone, row, parity)
		for k := range perRow {
			drive := (parity + 1 + k) % g.Drives
			if r, d, ok := Place(g, zone, block); r != row || d != drive || d == parity || !ok {
				t.Fatalf("%+v: Place(%d, %d) = %d, %d, %v", g, zone, block, r, d, ok)
			}
			if b, ok := Back(g, zone, row, drive); b != block || !ok {
				t.Fatalf("%+v: Back(%d, %d, %d) = %d, %v", g, zone, row, drive, b, ok)
			}
			block++
		}
	}
	if block != Capacity(g) {
		t.Errorf("%+v: %d blocks in zone %d", g, block, zone)
	}
}

// P4.2: no zone, row, block or drive beyond those that exist.
func TestBeyond(t *testing.T) {
	for _, g := range valid {
		for _, zone := range append([]int{Zones(g), Zones(g) + 1, g.Zones}, far...) {
			expectNoRow(t, g, zone, 0)
			expectNoBlock(t, g, zone, 0)
			for drive := range g.Drives {
				expectNoBack(t, g, zone, 0, drive)
			}
		}
		for _, row := range append([]int{g.Blocks, g.Blocks + 1}, far...) {
			expectNoRow(t, g, 0, row)
			for drive := range g.Drives {
				expectNoBack(t, g, 0, row, drive)
			}
		}
		for _, block := range append([]int{Capacity(g), Capacity(g) + 1, g.Drives * g.Blocks}, far...) {
			expectNoBlock(t, g, 0, block)
			expectNoBlock(t, g, Zones(g)-1, block)
		}
		for _, drive := range append([]int{g.Drives, g.Drives + 1, 2 * g.Drives}, far...) {
			for row := range g.Blocks {
				expectNoBack(t, g, 0, row, drive)
			}
		}
	}
}

const limit = 1 << 62

// P4.3: products up to 2^62.
func TestMul(t *testing.T) {
	for _, c := range []struct{ a, b, want int }{
		{0, 0, 0}, {0, 7, 0}, {1, 1, 1}, {3, 5, 15}, {1 << 20, 1 << 20, 1 << 40},
		{0, limit, 0}, {0, limit + 1, 0}, {0, math.MaxInt, 0},
		{1, limit, limit}, {2, 1 << 61, limit}, {1 << 31, 1 << 31, limit},
		{1, limit - 1, limit - 1}, {3, limit / 3, limit - 1}, {1<<31 - 1, 1<<31 + 1, limit - 1},
	} {
		for _, p := range [][2]int{{c.a, c.b}, {c.b, c.a}} {
			if got, ok := Mul(p[0], p[1]); got != c.want || !ok {
				t.Errorf("Mul(%d, %d) = %d, %v", p[0], p[1], got, ok)
			}
		}
	}
}

// P4.3: 0 and false for a product beyond, however far, and for negative numbers.
func TestMulWrong(t *testing.T) {
	for _, c := range [][2]int{
		{1, limit + 1}, {2, 1<<61 + 1}, {3, limit/3 + 1}, {1<<31 + 1, 1 << 31}, {5, limit / 4},
		{1 << 32, 1 << 31}, {1 << 32, 1 << 32}, {1 << 33, 1 << 31}, {1 << 62, 4}, {limit, limit}, {1, math.MaxInt}, {2, math.MaxInt}, {math.MaxInt, math.MaxInt},
		{-1, 0}, {-1, 1}, {-1, -1}, {-2, -3}, {0, math.MinInt}, {1, math.MinInt}, {2, math.MinInt}, {math.MinInt, math.MinInt}, {-1, math.MinInt}, {-1, math.MaxInt},
	} {
		for _, p := range [][2]int{c, {c[1], c[0]}} {
			if got, ok := Mul(p[0], p[1]); got != 0 || ok {
				t.Errorf("Mul(%d, %d) = %d, %v", p[0], p[1], got, ok)
			}
		}
	}
}

// P4.3: sums up to 2^62.
func TestAdd(t *testing.T) {
	for _, c := range []struct{ a, b, want int }{
		{0, 0, 0}, {0, 7, 7}, {1, 1, 2}, {3, 5, 8},
		{0, limit, limit}, {1, limit - 1, limit}, {1 << 61, 1 << 61, limit}, {1, limit - 2, limit - 1},
	} {
		for _, p := range [][2]int{{c.a, c.b}, {c.b, c.a}} {
			if got, ok := Add(p[0], p[1]); got != c.want || !ok {
				t.Errorf("Add(%d, %d) = %d, %v", p[0], p[1], got, ok)
			}
		}
	}
}

// P4.3: 0 and false for a sum beyond, however far, and for negative numbers.
func TestAddWrong(t *testing.T) {
	for _, c := range [][2]int{
		{0, limit + 1}, {1, limit}, {1 << 61, 1<<61 + 1}, {limit, limit}, {0, math.MaxInt}, {1, math.MaxInt}, {limit, math.MaxInt}, {math.MaxInt, math.MaxInt},
		{-1, 0}, {-1, 1}, {-1, 5}, {-1, -1}, {-1, limit + 1}, {-1, math.MaxInt}, {0, math.MinInt}, {math.MaxInt, math.MinInt}, {math.MinInt, math.MinInt},
	} {
		for _, p := range [][2]int{c, {c[1], c[0]}} {
			if got, ok := Add(p[0], p[1]); got != 0 || ok {
				t.Errorf("Add(%d, %d) = %d, %v", p[0], p[1], got, ok)
			}
		}
	}
}

// P4.3: the zone and the block of each number, in order.
func TestSplit(t *testing.T) {
	for _, g := range valid {
		n := 0
		for zone := range Zones(g) {
			for block := range Capacity(g) {
				if z, b, ok := Split(g, n); z != zone || b != block || !ok {
					t.Fatalf("%+v: Split(%d) = %d, %d, %v", g, n, z, b, ok)
				}
				n++
			}
		}
		expectNoSplit(t, g, n)
		expectNoSplit(t, g, n+1)
		expectNoSplit(t, g, n+Capacity(g))
		for _, n := range []int{-1, -Capacity(g), math.MinInt, 1 << 40, math.MaxInt} {
			expectNoSplit(t, g, n)
		}
	}
}
