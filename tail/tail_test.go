package tail

import (
	"math"
	"slices"
	"testing"

	"corbel/api"
	"corbel/geom"
)

// small has three logical zones of 52 blocks.
var small = api.Geometry{Drives: 3, Zones: 6, Blocks: 26, Open: 2, Active: 6}

// least has two logical zones of eight blocks.
var least = api.Geometry{Drives: 3, Zones: 5, Blocks: 4, Open: 1, Active: 1}

// wild are numbers that are no index and no number of anything.
var wild = []int{-1, -2, math.MinInt, math.MinInt + 1, 1 << 20, 1 << 32, math.MaxInt - 1, math.MaxInt}

// badGeometries are each one number away from small.
var badGeometries = []api.Geometry{
	{},
	{Drives: 2, Zones: 6, Blocks: 26, Open: 2, Active: 6},
	{Drives: 17, Zones: 6, Blocks: 26, Open: 2, Active: 6},
	{Drives: 3, Zones: 4, Blocks: 26, Open: 2, Active: 4},
	{Drives: 3, Zones: 65, Blocks: 26, Open: 2, Active: 6},
	{Drives: 3, Zones: 6, Blocks: 3, Open: 2, Active: 6},
	{Drives: 3, Zones: 6, Blocks: 257, Open: 2, Active: 6},
	{Drives: 3, Zones: 6, Blocks: 26, Open: 0, Active: 6},
	{Drives: 3, Zones: 6, Blocks: 26, Open: 2, Active: 7},
	{Drives: 0, Zones: 6, Blocks: 26, Open: 2, Active: 6},
	{Drives: 1, Zones: 6, Blocks: 26, Open: 2, Active: 6},
	{Drives: math.MinInt, Zones: math.MinInt, Blocks: math.MinInt, Open: math.MinInt, Active: math.MinInt},
	{Drives: math.MaxInt, Zones: math.MaxInt, Blocks: math.MaxInt, Open: math.MaxInt, Active: math.MaxInt},
}

// draws is a row of numbers that repeat in no short period.
type draws uint64

func (d *draws) next(n int) int {
	*d = *d*6364136223846793005 + 1442695040888963407
	return int(uint64(*d)>>33) % n
}

func (d *draws) from(least, greatest int) int {
	return least + d.next(greatest-least+1)
}

// sourceOf is Source sentence by sentence, for a valid view and a block that exists.
func sourceOf(g api.Geometry, zone int, v View, block int) (int, int) {
	row, slot, _ := geom.Place(g, zone, block)
	has := make([]bool, g.Drives)
	for s := range has {
		has[s] = s != v.Missing && v.Lengths[s] > row
	}
	if has[slot] {
		return 1, 0
	}
	if slot != v.Missing {
		return 0, 0
	}
	others := true
	for s := range has {
		others = others && (s == slot || has[s])
	}
	if others {
		return 2, 0
	}
	perRow, found := g.Drives-1, -1
	for i, n := range v.Notes {
		serves := n.Row == row && n.Count > block%perRow && n.Count <= perRow
		for k := 0; serves && k < n.Count; k++ {
			_, s, _ := geom.Place(g, zone, row*perRow+k)
			serves = k == block%perRow || has[s]
		}
		if serves {
			found = i
		}
	}
	if found >= 0 {
		return 3, found
	}
	return 0, 0
}

// lengthOf is Length by sourceOf.
func lengthOf(g api.Geometry, zone int, v View) int {
	for block := range geom.Capacity(g) {
		if kind, _ := sourceOf(g, zone, v, block); kind == 0 {
			return block
		}
	}
	return geom.Capacity(g)
}

// expectAll holds Source of each block, and Length, against what the document says.
func expectAll(t *testing.T, g api.Geometry, zone int, v View) {
	t.Helper()
	for block := range geom.Capacity(g) {
		kind, note := Source(g, zone, v, block)
		if wantKind, wantNote := sourceOf(g, zone, v, block); kind != wantKind || note != wantNote {
			t.Fatalf("%+v, zone %d, %+v: Source of %d is %d, %d, want %d, %d", g, zone, v, block, kind, note, wantKind, wantNote)
		}
	}
	if got, want := Length(g, zone, v), lengthOf(g, zone, v); got != want {
		t.Fatalf("%+v, zone %d, %+v: Length is %d, want %d", g, zone, v, got, want)
	}
}

// The numbers of sources are the document's.
func TestKinds(t *testing.T) {
	if None != 0 || Direct != 1 || Row != 2 || Note != 3 {
		t.Error(None, Direct, Row, Note)
	}
}

// P12.1: Source, each rule and its edges. In row 0 of zone 0 of small, slot 0 has the parity, slot 1 block 0, slot 2
// block 1; in row 1 slot 1 has the parity, slot 2 block 2, slot 0 block 3.
func TestSource(t *testing.T) {
	none := []Noted(nil)
	for _, c := range []struct {
		name       string
		lengths    []int
		missing    int
		notes      []Noted
		block      int
		kind, note int
	}{
		{"nothing was written", []int{0, 0, 0}, -1, none, 0, None, 0},
		{"nothing, and the slot is missing", []int{0, 0, 0}, 1, none, 0, None, 0},
		{"the slot has the row", []int{0, 1, 0}, -1, none, 0, Direct, 0},
		{"it has more", []int{0, 26, 0}, -1, none, 0, Direct, 0},
		{"it has the row, another is missing", []int{0, 1, 0}, 2, none, 0, Direct, 0},
		{"it has the row, and there is a note", []int{0, 1, 0}, 2, []Noted{{9, 1}, {0, 1}}, 0, Direct, 0},
		{"it has one block less than row 1 needs", []int{2, 2, 1}, -1, none, 2, None, 0},
		{"it has just row 1", []int{0, 0, 2}, -1, none, 2, Direct, 0},
		{"it does not have the row, all others do", []int{1, 0, 1}, -1, none, 0, None, 0},
		{"it does not have the row, but a note tells of it", []int{1, 0, 1}, -1, []Noted{{0, 1}}, 0, None, 0},
		{"it does not have the row, another is missing", []int{1, 0, 1}, 2, []Noted{{0, 1}}, 0, None, 0},
		{"it is missing, all others have the row", []int{1, 0, 1}, 1, none, 0, Row, 0},
		{"its Length is ignored", []int{1, 26, 1}, 1, none, 0, Row, 0},
		{"its Length is ignored, and the row is not whole", []int{0, 26, 0}, 1, none, 0, None, 0},
		{"all others have the row, and there is a note", []int{1, 0, 1}, 1, []Noted{{9, 1}, {0, 1}}, 0, Row, 0},
		{"the parity is not there", []int{0, 0, 1}, 1, none, 0, None, 0},
		{"the other block is not there", []int{1, 0, 0}, 1, none, 0, None, 0},
		{"a note of one block", []int{0, 0, 0}, 1, []Noted{{0, 1}}, 0, Note, 0},
		{"a note of one block, the parity is there", []int{1, 0, 0}, 1, []Noted{{0, 1}}, 0, Note, 0},
		{"a note of two blocks without the other one", []int{1, 0, 0}, 1, []Noted{{0, 2}}, 0, None, 0},
		{"a note of two blocks with the other one", []int{0, 0, 1}, 1, []Noted{{0, 2}}, 0, Note, 0},
		{"a note of no block", []int{0, 0, 1}, 1, []Noted{{0, 0}}, 0, None, 0},
		{"a note of less than no block", []int{0, 0, 1}, 1, []Noted{{0, -1}}, 0, None, 0},
		{"a note of more blocks than a row has", []int{0, 0, 1}, 1, []Noted{{0, 3}}, 0, None, 0},
		{"a note of far more", []int{0, 0, 1}, 1, []Noted{{0, math.MaxInt}}, 0, None, 0},
		{"a note of another row", []int{0, 0, 1}, 1, []Noted{{1, 1}, {-1, 1}, {26, 1}}, 0, None, 0},
		{"the last of several notes", []int{0, 0, 1}, 1, []Noted{{0, 1}, {0, 2}, {0, 1}, {0, 2}}, 0, Note, 3},
		{"the last that serves", []int{0, 0, 0}, 1, []Noted{{0, 1}, {0, 2}, {0, 1}, {0, 2}}, 0, Note, 2},
		{"the last, with others behind it", []int{0, 0, 1}, 1, []Noted{{3, 1}, {0, 1}, {1, 1}, {0, 3}}, 0, Note, 1},
		{"the second block: a note of one is too short", []int{0, 1, 0}, 2, []Noted{{0, 1}}, 1, None, 0},
		{"the second block: a note of two", []int{0, 1, 0}, 2, []Noted{{0, 2}}, 1, Note, 0},
		{"the second block: the first one is not there", []int{1, 0, 0}, 2, []Noted{{0, 2}}, 1, None, 0},
		{"the second block of row 1", []int{0, 1, 2}, 0, []Noted{{1, 2}, {0, 2}}, 3, Note, 0},
		{"the second block of row 1, the first one is not there", []int{0, 2, 1}, 0, []Noted{{1, 2}}, 3, None, 0},
		{"the last block by its row", []int{0, 26, 26}, 0, none, 51, Row, 0},
		{"the last block, without the parity", []int{0, 25, 26}, 0, none, 51, None, 0},
	} {
		v := View{Lengths: c.lengths, Missing: c.missing, Notes: c.notes}
		if kind, note := Source(small, 0, v, c.block); kind != c.kind || note != c.note {
			t.Errorf("%s: %d, %d, want %d, %d", c.name, kind, note, c.kind, c.note)
		}
	}
}

// P12.1: the zone tells which slot has the parity.
func TestSourceOfZones(t *testing.T) {
	v := View{Lengths: []int{0, 1, 1}, Missing: 0}
	for zone, want := range [][]int{{Direct, Direct}, {Direct, Row}, {Row, Direct}} {
		for block, kind := range want {
			if got, note := Source(small, zone, v, block); got != kind || note != 0 {
				t.Errorf("zone %d, block %d: %d, %d, want %d", zone, block, got, note, kind)
			}
		}
	}
}

// P12.1, P12.2: the document's example.
func TestExample(t *testing.T) {
	v := View{Lengths: []int{0, 1, 0}, Missing: 2, Notes: []Noted{{Row: 0, Count: 2}}}
	if n := Length(small, 0, v); n != 2 {
		t.Errorf("Length is %d", n)
	}
	for block, want := range []int{Direct, Note, None} {
		if kind, note := Source(small, 0, v, block); kind != want || note != 0 {
			t.Errorf("Source of %d is %d, %d", block, kind, note)
		}
	}
}

// P12.1, P12.2: each view of the least geometry, with different notes.
func TestEachView(t *testing.T) {
	lists := [][]Noted{
		nil,
		{{0, 1}},
		{{0, 2}, {1, 2}},
		{{1, 1}, {0, 2}, {0, 1}, {1, 2}, {3, 2}, {3, 1}},
		{{3, 2}, {2, 2}, {2, 1}, {1, 2}, {1, 1}, {0, 3}, {0, 2}, {0, 0}},
		{{2, 2}, {0, 1}, {2, 1}, {2, 3}, {2, -1}, {4, 1}, {-1, 1}, {1, 2}},
	}
	for at := range 125 {
		for missing := -1; missing < 3; missing++ {
			for _, notes := range lists {
				for zone := range 2 {
					expectAll(t, least, zone, View{Lengths: []int{at / 25, at / 5 % 5, at % 5}, Missing: missing, Notes: notes})
				}
			}
		}
	}
}

// P12.1, P12.2: views of larger geometries.
func TestManyViews(t *testing.T) {
	d := draws(1)
	for range 3000 {
		g := api.Geometry{Drives: d.from(3, 16), Zones: d.from(5, 8), Blocks: d.from(4, 9), Open: 1, Active: 2}
		v := View{Missing: d.from(-1, g.Drives-1)}
		base := d.from(0, g.Blocks)
		for range g.Drives {
			v.Lengths = append(v.Lengths, min(g.Blocks, base+d.next(2)))
		}
		for range d.next(12) {
			v.Notes = append(v.Notes, Noted{Row: base + d.from(-1, 1), Count: d.from(-1, g.Drives)})
		}
		expectAll(t, g, d.next(geom.Zones(g)), v)
	}
}

// P12.2: Length, for what the rules yield block by block. The blocks of the rows 0 to 3 of zone 0 are on the slots 1, 2;
// 2, 0; 0, 1; 1, 2; those of the last row, 25, on 2, 0.
func TestLength(t *testing.T) {
	for _, c := range []struct {
		name    string
		lengths []int
		missing int
		notes   []Noted
		want    int
	}{
		{"nothing", []int{0, 0, 0}, -1, nil, 0},
		{"one block", []int{0, 1, 0}, -1, nil, 1},
		{"the second block without the first", []int{1, 0, 1}, -1, nil, 0},
		{"one row without its parity", []int{0, 1, 1}, -1, nil, 2},
		{"one row", []int{1, 1, 1}, -1, nil, 2},
		{"a row and a block", []int{1, 1, 2}, -1, nil, 3},
		{"a gap", []int{4, 1, 4}, -1, nil, 5},
		{"all", []int{26, 26, 26}, -1, nil, 52},
		{"all but the last parity", []int{26, 25, 26}, -1, nil, 52},
		{"all but the last block", []int{25, 26, 26}, -1, nil, 51},
		{"all by two slots", []int{26, 0, 26}, 1, nil, 52},
		{"all by two slots, the last row not whole", []int{26, 25, 0}, 2, nil, 50},
		{"the same with a note", []int{26, 25, 0}, 2, []Noted{{25, 2}}, 52},
		{"a row and a note of the next", []int{1, 1, 0}, 2, []Noted{{1, 1}}, 3},
		{"a note of one block more than there is", []int{1, 1, 0}, 2, []Noted{{1, 2}}, 2},
	} {
		if got := Length(small, 0, View{Lengths: c.lengths, Missing: c.missing, Notes: c.notes}); got != c.want {
			t.Errorf("%s: %d, want %d", c.name, got, c.want)
		}
	}
}

func expectNone(t *testing.T, what string, g api.Geometry, zone int, v View, block int) {
	t.Helper()
	if kind, note := Source(g, zone, v, block); kind != None || note != 0 {
		t.Errorf("%s: Source is %d, %d", what, kind, note)
	}
}

// P12.1: zones and blocks that there are not.
func TestWrongPlace(t *testing.T) {
	v := View{Lengths: []int{26, 26, 26}, Missing: -1}
	for _, zone := range append([]int{3, 4, 6}, wild...) {
		expectNone(t, "no zone", small, zone, v, 0)
		if n := Length(small, zone, v); n != 0 {
			t.Errorf("Length of zone %d is %d", zone, n)
		}
	}
	for _, missing := range []int{-1, 0, 1, 2} {
		v.Missing = missing
		v.Notes = []Noted{{Row: 26, Count: 1}, {Row: -1, Count: 2}}
		for _, block := range append([]int{52, 53, 78}, wild...) {
			expectNone(t, "no block", small, 0, v, block)
		}
	}
}

// P12.1, P12.2: geometries and views that are not valid, each a step away from one in which all blocks can be read.
func TestWrongView(t *testing.T) {
	full := []int{26, 26, 26}
	notes := []Noted{{Row: 0, Count: 1}}
	for _, g := range badGeometries {
		for _, n := range []int{0, 1, 2, 3, 16, 17} {
			v := View{Lengths: slices.Repeat([]int{4}, n), Missing: -1, Notes: notes}
			expectNone(t, "geometry", g, 0, v, 0)
			if n := Length(g, 0, v); n != 0 {
				t.Errorf("Length of %+v is %d", g, n)
			}
		}
	}
	views := []View{{}, {Missing: -1}, {Lengths: []int{}}}
	for _, missing := range append([]int{3, 4, 6}, wild[1:]...) {
		views = append(views, View{Lengths: full, Missing: missing})
	}
	for missing := -1; missing < 3; missing++ {
		for _, l := range [][]int{{}, {26}, {26, 26}, {26, 26, 26, 26}, {26, 26, 26, 0, 0, 0}} {
			views = append(views, View{Lengths: l, Missing: missing})
		}
		for slot := range 3 {
			for _, n := range append([]int{27, 28, 52}, wild...) {
				l := slices.Clone(full)
				l[slot] = n
				views = append(views, View{Lengths: l, Missing: missing})
			}
		}
	}
	for _, v := range views {
		v.Notes = notes
		for block := range 52 {
			expectNone(t, "view", small, 0, v, block)
		}
		if n := Length(small, 0, v); n != 0 {
			t.Errorf("Length of %+v is %d", v, n)
		}
	}
}

// P12.1, P12.2: the least and the greatest of what is valid.
func TestValidEdges(t *testing.T) {
	greatest := api.Geometry{Drives: 16, Zones: 64, Blocks: 256, Open: 64, Active: 64}
	for _, g := range []api.Geometry{small, least, greatest} {
		for missing := -1; missing < g.Drives; missing++ {
			v := View{Lengths: slices.Repeat([]int{g.Blocks}, g.Drives), Missing: missing}
			for _, zone := range []int{0, geom.Zones(g) - 1} {
				if got := Length(g, zone, v); got != geom.Capacity(g) {
					t.Errorf("%+v, zone %d, %d missing: %d", g, zone, missing, got)
				}
			}
			v.Lengths = make([]int, g.Drives)
			if got := Length(g, 0, v); got != 0 {
				t.Errorf("%+v, %d missing, without blocks: %d", g, missing, got)
			}
		}
	}
}

// P12.1, P12.2: what is passed stays as it was, with its spare capacity.
func TestLeavesView(t *testing.T) {
	lengths := []int{1, 1, 0, 7, 8}
	notes := []Noted{{1, 2}, {1, 1}, {0, 1}, {1, 1}}
	v := View{Lengths: lengths[:3], Missing: 2, Notes: notes[:2]}
	if kind, note := Source(small, 0, v, 2); kind != Note || note != 1 {
		t.Errorf("Source is %d, %d", kind, note)
	}
	if n := Length(small, 0, v); n != 3 {
		t.Errorf("Length is %d", n)
	}
	if !slices.Equal(lengths, []int{1, 1, 0, 7, 8}) || !slices.Equal(notes, []Noted{{1, 2}, {1, 1}, {0, 1}, {1, 1}}) {
		t.Error(lengths, notes)
	}
}
