package rebuild

import (
	"math"
	"slices"
	"testing"

	"corbel/api"
	"corbel/book"
	"corbel/record"
)

// wild are numbers that are no slot, no zone and no number of blocks.
var wild = []int{-1, -2, -64, math.MinInt, math.MinInt + 1, 1 << 20, 1 << 32, 1 << 40, 1 << 62, math.MaxInt - 1, math.MaxInt}

// least has two logical zones, stored in three physical ones, from 2 to 4.
var least = api.Geometry{Drives: 3, Zones: 5, Blocks: 4, Open: 1, Active: 1}

// small has three logical zones, stored in four physical ones, from 2 to 5.
var small = api.Geometry{Drives: 3, Zones: 6, Blocks: 26, Open: 2, Active: 6}

// geometries are valid: the least and the greatest ones, and others.
var geometries = []api.Geometry{
	least,
	small,
	{Drives: 16, Zones: 64, Blocks: 256, Open: 64, Active: 64},
	{Drives: 16, Zones: 5, Blocks: 4, Open: 1, Active: 5},
	{Drives: 3, Zones: 64, Blocks: 4, Open: 1, Active: 1},
	{Drives: 5, Zones: 9, Blocks: 40, Open: 3, Active: 7},
}

// badGeometries are each one number away from a valid one.
var badGeometries = []api.Geometry{
	{},
	{Drives: 2, Zones: 6, Blocks: 26, Open: 2, Active: 6},
	{Drives: 17, Zones: 6, Blocks: 26, Open: 2, Active: 6},
	{Drives: 3, Zones: 4, Blocks: 26, Open: 2, Active: 4},
	{Drives: 3, Zones: 65, Blocks: 26, Open: 2, Active: 6},
	{Drives: 3, Zones: 6, Blocks: 3, Open: 2, Active: 6},
	{Drives: 3, Zones: 6, Blocks: 257, Open: 2, Active: 6},
	{Drives: 3, Zones: 6, Blocks: 26, Open: 0, Active: 6},
	{Drives: 3, Zones: 6, Blocks: 26, Open: 3, Active: 2},
	{Drives: 3, Zones: 6, Blocks: 26, Open: 2, Active: 7},
	{Drives: 0, Zones: 6, Blocks: 26, Open: 2, Active: 6},
	{Drives: -3, Zones: 6, Blocks: 26, Open: 2, Active: 6},
	{Drives: 3, Zones: math.MaxInt, Blocks: 26, Open: 2, Active: 6},
	{Drives: math.MinInt, Zones: math.MinInt, Blocks: math.MinInt, Open: math.MinInt, Active: math.MinInt},
}

// used is a book of small that differs from New in everything: its slots have the drives 2, 0, 1, and none is being rebuilt.
func used() book.Book {
	return book.Book{
		Seq: 40, Slot: -1,
		Zones:   []book.Zone{{Phys: 4, Gen: 7, State: book.Emptying}, {Phys: 2, Gen: 1}, {Phys: 5, Gen: 1 << 40, State: book.Finished}},
		Members: []int{2, 0, 1},
	}
}

// with returns used with other Members, Slot and Cursor.
func with(members []int, slot, cursor int) book.Book {
	b := used()
	b.Members, b.Slot, b.Cursor = members, slot, cursor
	return b
}

func clone(b book.Book) book.Book {
	b.Zones, b.Members = slices.Clone(b.Zones), slices.Clone(b.Members)
	return b
}

func same(a, b book.Book) bool {
	return a.Seq == b.Seq && slices.Equal(a.Zones, b.Zones) && slices.Equal(a.Members, b.Members) && a.Slot == b.Slot && a.Cursor == b.Cursor
}

func member(seq, slot, drive int) record.Record {
	return record.Record{Kind: record.Member, Seq: seq, A: slot, B: drive}
}

func cursor(seq, slot, phys int) record.Record {
	return record.Record{Kind: record.Cursor, Seq: seq, A: slot, B: phys}
}

// expectBegin expects the records of a slot that gets the spare drive, the book after them, and that neither shares
// anything with what was passed.
func expectBegin(t *testing.T, g api.Geometry, b book.Book, slot int) book.Book {
	t.Helper()
	before, want := clone(b), clone(b)
	want.Seq, want.Slot, want.Cursor = b.Seq+2, slot, 2
	want.Members[slot] = g.Drives
	l, after, e := Begin(g, b, slot)
	if e != api.OK || !slices.Equal(l, []record.Record{cursor(b.Seq+1, slot, 2), member(b.Seq+2, slot, g.Drives)}) {
		t.Fatalf("Begin(%+v, %d): %+v, %d", b, slot, l, e)
	}
	if !same(after, want) {
		t.Fatalf("Begin(%+v, %d): the book is %+v, want %+v", b, slot, after, want)
	}
	other := clone(after)
	clear(after.Zones)
	clear(after.Members)
	if !same(b, before) {
		t.Fatalf("Begin changes the book to %+v", b)
	}
	return other
}

func expectNoBegin(t *testing.T, what string, g api.Geometry, b book.Book, slot int, want api.Errno) {
	t.Helper()
	before := clone(b)
	l, after, e := Begin(g, b, slot)
	if e != want || len(l) != 0 || !same(after, book.Book{}) {
		t.Errorf("%s: Begin(%+v, %d): %+v, %+v, %d, want %d", what, b, slot, l, after, e, want)
	}
	if !same(b, before) {
		t.Errorf("%s: Begin changes the book to %+v", what, b)
	}
}

// P16.1: the document's example.
func TestBeginExample(t *testing.T) {
	l, b, e := Begin(least, book.New(least), 1)
	if e != api.OK || !slices.Equal(l, []record.Record{cursor(1, 1, 2), member(2, 1, 3)}) {
		t.Errorf("%+v, %d", l, e)
	}
	if phys, zone, ok := Next(least, b); phys != 2 || zone != 0 || !ok {
		t.Errorf("%d, %d, %v", phys, zone, ok)
	}
}

// P16.1: each slot of each geometry; the records are valid ones, and a log with them yields the same book.
func TestBegin(t *testing.T) {
	for _, g := range geometries {
		for slot := range g.Drives {
			l, b := book.New(g).Records()
			after := expectBegin(t, g, b, slot)
			begun, _, _ := Begin(g, b, slot)
			for _, x := range begun {
				if _, e := record.Encode(x); e != api.OK {
					t.Errorf("%+v can't be encoded: %d", x, e)
				}
			}
			if got, e := book.Read(g, l, begun); e != api.OK || !same(got, after) {
				t.Errorf("%+v: Read yields %+v, %d, want %+v", g, got, e, after)
			}
		}
	}
}

// P16.1: books in which a slot can get the spare drive.
func TestBeginBooks(t *testing.T) {
	for slot := range 3 {
		expectBegin(t, small, used(), slot)
		// The power failed behind the Cursor, here or further on.
		for _, at := range []int{2, 0, 4, 6, 99, -1} {
			expectBegin(t, small, with([]int{2, 0, 1}, slot, at), slot)
		}
		// No slot is being rebuilt if the Slot is less than 0, whatever the Cursor is.
		for _, none := range []int{-1, -2, math.MinInt} {
			expectBegin(t, small, with([]int{2, 0, 1}, none, 4), slot)
		}
		// Drives that a book can't have are not the spare one.
		expectBegin(t, small, with([]int{4, -1, 4}, -1, 0), slot)
		expectBegin(t, small, with([]int{math.MaxInt, math.MinInt, 0}, slot, 3), slot)
	}
	expectBegin(t, small, book.Book{Members: []int{0, 1, 2}, Slot: -1}, 1)
	expectBegin(t, small, book.Book{Members: []int{0, 1, 2}, Seq: 1 << 40, Slot: 1, Cursor: 5}, 1)
	expectBegin(t, small, book.Book{Members: []int{0, 1, 2}, Seq: -10, Slot: -1}, 2)
}

// P16.1: the spare capacity of a book's lists is not used.
func TestBeginCapacity(t *testing.T) {
	b := used()
	b.Zones, b.Members = append(b.Zones, book.Zone{Phys: 9}), append(b.Members, 9)
	b.Zones, b.Members = b.Zones[:2], b.Members[:3]
	l, after, _ := Begin(small, b, 0)
	_ = append(l, record.Record{})
	_, last, _ := Advance(small, after)
	for _, x := range []book.Book{after, last} {
		_ = append(x.Zones, book.Zone{Phys: 8})
		_ = append(x.Members, 8)
	}
	if b.Zones[:4][3].Phys != 9 || b.Zones[:3][2].Phys != 5 || b.Members[:4][3] != 9 {
		t.Errorf("%+v, %v", b.Zones[:4], b.Members[:4])
	}
}

// P16.1: ErrArg for a geometry that is not valid, a book of other slots, and a slot that there is not; it comes first.
func TestBeginWrong(t *testing.T) {
	for _, g := range badGeometries {
		for _, n := range []int{0, 1, 2, 3, 17} {
			b := book.Book{Slot: -1, Members: make([]int, n)}
			expectNoBegin(t, "geometry", g, b, 0, api.ErrArg)
			b.Slot = 0
			expectNoBegin(t, "geometry", g, b, 2, api.ErrArg)
		}
		expectNoBegin(t, "geometry", g, book.New(small), 1, api.ErrArg)
	}
	for _, members := range [][]int{nil, {}, {0}, {0, 1}, {0, 1, 2, 3}, {0, 3}, {0, 1, 2, 3, 4, 5}} {
		for slot := range 4 {
			expectNoBegin(t, "members", small, with(members, -1, 0), slot, api.ErrArg)
			expectNoBegin(t, "members", small, with(members, 1, 2), slot, api.ErrArg)
		}
	}
	for _, slot := range append([]int{3, 4, 16}, wild...) {
		expectNoBegin(t, "slot", small, used(), slot, api.ErrArg)
		expectNoBegin(t, "slot", small, with([]int{0, 1, 3}, 1, 2), slot, api.ErrArg)
		expectNoBegin(t, "slot", small, with([]int{0, 1, 2}, slot, 2), slot, api.ErrArg)
	}
}

// P16.1: ErrState while another slot is being rebuilt, or this one on the spare drive; it comes before ErrNone.
func TestBeginState(t *testing.T) {
	for slot := range 3 {
		for other := range 3 {
			members := []int{0, 1, 2}
			if other != slot {
				expectNoBegin(t, "another slot", small, with(members, other, 2), slot, api.ErrState)
				expectNoBegin(t, "another slot, at the end", small, with(members, other, 6), slot, api.ErrState)
			}
			members[other] = 3
			expectNoBegin(t, "on the spare drive", small, with(members, other, 2), slot, api.ErrState)
			expectNoBegin(t, "on the spare drive, at the end", small, with(members, other, 6), slot, api.ErrState)
			expectNoBegin(t, "on the spare drive, before the first zone", small, with(members, other, 0), slot, api.ErrState)
		}
		for _, none := range []int{3, 16, math.MaxInt} {
			expectNoBegin(t, "a slot that there is not", small, with([]int{0, 1, 2}, none, 2), slot, api.ErrState)
		}
	}
}

// P16.1: ErrNone if a slot has the spare drive.
func TestBeginNone(t *testing.T) {
	for slot := range 3 {
		for owner := range 3 {
			members := []int{0, 1, 2}
			members[owner] = 3
			expectNoBegin(t, "assigned", small, with(members, -1, 0), slot, api.ErrNone)
			expectNoBegin(t, "assigned", small, with(members, -7, 4), slot, api.ErrNone)
			if owner != slot {
				expectNoBegin(t, "assigned to another slot", small, with(members, slot, 2), slot, api.ErrNone)
			}
		}
		expectNoBegin(t, "assigned to all", small, with([]int{3, 3, 3}, -1, 0), slot, api.ErrNone)
	}
}

func expectNext(t *testing.T, g api.Geometry, b book.Book, phys, zone int, ok bool) {
	t.Helper()
	if p, z, found := Next(g, b); p != phys || z != zone || found != ok {
		t.Errorf("Next(%+v): %d, %d, %v, want %d, %d, %v", b, p, z, found, phys, zone, ok)
	}
}

// P16.2: the physical zone at the Cursor, and the logical one in it.
func TestNext(t *testing.T) {
	for slot := range 3 {
		for at, zone := range map[int]int{2: 1, 3: -1, 4: 0, 5: 2} {
			expectNext(t, small, with([]int{2, 0, 1}, slot, at), at, zone, true)
		}
		for _, at := range []int{1, 0, -1, -2, math.MinInt} {
			expectNext(t, small, with([]int{2, 0, 1}, slot, at), 2, 1, true)
		}
		for _, at := range []int{6, 7, 64, math.MaxInt} {
			expectNext(t, small, with([]int{2, 0, 1}, slot, at), 0, 0, false)
		}
	}
	for _, none := range []int{-1, -2, math.MinInt} {
		for _, at := range []int{0, 2, 5, 6, -1} {
			expectNext(t, small, with([]int{2, 0, 1}, none, at), 0, 0, false)
		}
	}
}

// P16.2: books that were made by hand.
func TestNextByHand(t *testing.T) {
	zones := func(phys ...int) book.Book {
		b := book.Book{Slot: 1, Cursor: 3}
		for _, n := range phys {
			b.Zones = append(b.Zones, book.Zone{Phys: n})
		}
		return b
	}
	expectNext(t, small, zones(), 3, -1, true)
	expectNext(t, small, zones(2, 4, 5), 3, -1, true)
	expectNext(t, small, zones(2, 3, 3), 3, 1, true)
	expectNext(t, small, zones(3, 3, 3), 3, 0, true)
	expectNext(t, small, zones(append(slices.Clone(wild), 3, 3)...), 3, len(wild), true)
	expectNext(t, small, book.Book{}, 2, -1, true)
	expectNext(t, small, book.Book{Slot: math.MaxInt, Cursor: 5}, 5, -1, true)
}

// expectAdvance expects a Cursor, the book after it, and that it shares nothing with what was passed. It returns that book.
func expectAdvance(t *testing.T, g api.Geometry, b book.Book, slot, phys int) book.Book {
	t.Helper()
	before, want := clone(b), clone(b)
	want.Seq, want.Slot, want.Cursor = b.Seq+1, slot, phys
	record := cursor(b.Seq+1, slot, phys)
	if slot < 0 {
		record = cursor(b.Seq+1, 65535, 0)
	}
	x, after, e := Advance(g, b)
	if e != api.OK || x != record || !same(after, want) {
		t.Fatalf("Advance(%+v): %+v, %+v, %d, want %+v, %+v", b, x, after, e, record, want)
	}
	other := clone(after)
	clear(after.Zones)
	clear(after.Members)
	if !same(b, before) {
		t.Fatalf("Advance changes the book to %+v", b)
	}
	return other
}

// P16.2: the Cursor behind the zone of Next, or the one that states that no slot is being rebuilt.
func TestAdvance(t *testing.T) {
	for slot := range 3 {
		for _, members := range [][]int{{2, 0, 1}, {3, 3, 3}, {0, 1}, nil} {
			for _, at := range []int{2, 3, 4} {
				expectAdvance(t, small, with(members, slot, at), slot, at+1)
			}
			for _, at := range []int{1, 0, -1, math.MinInt} {
				expectAdvance(t, small, with(members, slot, at), slot, 3)
			}
			for _, at := range []int{5, 6, 7, math.MaxInt} {
				expectAdvance(t, small, with(members, slot, at), -1, 0)
			}
		}
	}
	expectAdvance(t, small, book.Book{Slot: 7, Cursor: 3}, 7, 4)
	expectAdvance(t, small, book.Book{}, 0, 3)
}

// P16.2: ErrState if no slot is being rebuilt.
func TestAdvanceState(t *testing.T) {
	for _, none := range []int{-1, -2, math.MinInt} {
		for _, at := range []int{0, 2, 5, 6, 7, -1} {
			if x, b, e := Advance(small, with([]int{3, 0, 1}, none, at)); e != api.ErrState || x != (record.Record{}) || !same(b, book.Book{}) {
				t.Errorf("%+v, %+v, %d", x, b, e)
			}
		}
	}
	if _, _, e := Advance(small, book.New(small)); e != api.ErrState {
		t.Error(e)
	}
}

// P16.2: geometries that are not valid: nothing panics, and a geometry without zones has none to be rebuilt.
func TestWrongGeometry(t *testing.T) {
	for _, g := range badGeometries {
		for _, at := range append([]int{0, 2, 5}, wild...) {
			for _, slot := range []int{-1, 0, 2, math.MaxInt} {
				b := with([]int{2, 0, 1}, slot, at)
				if _, _, ok := Next(g, b); ok && slot < 0 {
					t.Errorf("%+v: there is a next zone of %+v", g, b)
				}
				if _, _, e := Advance(g, b); (e == api.ErrState) != (slot < 0) {
					t.Errorf("%+v: Advance(%+v): %d", g, b, e)
				}
			}
		}
	}
	expectNext(t, api.Geometry{}, with([]int{2, 0, 1}, 0, 0), 0, 0, false)
	expectAdvance(t, api.Geometry{}, with([]int{2, 0, 1}, 0, 2), -1, 0)
}

// P16.4: from Begin on, each physical zone once and in order, in Zones - MetaZones calls, also if a call was repeated with
// what a power failure left of the records.
func TestWalk(t *testing.T) {
	for _, g := range geometries {
		for _, slot := range []int{0, 1, g.Drives - 1} {
			l, b := book.New(g).Records()
			begun, b, _ := Begin(g, b, slot)
			l = append(l, begun...)
			for phys := 2; phys < g.Zones; phys++ {
				zone := phys - 2
				if phys == g.Zones-1 {
					zone = -1
				}
				expectNext(t, g, b, phys, zone, true)
				wantSlot, wantCursor := slot, phys+1
				if phys == g.Zones-1 {
					wantSlot, wantCursor = -1, 0
				}
				x, _, _ := Advance(g, b)
				b = expectAdvance(t, g, b, wantSlot, wantCursor)
				l = append(l, x)
				if read, e := book.Read(g, l); e != api.OK || !same(read, b) {
					t.Fatalf("%+v: Read yields %+v, %d, want %+v", g, read, e, b)
				}
			}
			expectNext(t, g, b, 0, 0, false)
			if _, _, e := Advance(g, b); e != api.ErrState {
				t.Errorf("%+v: Advance behind the end: %d", g, e)
			}
			expectNoBegin(t, "behind the end", g, b, slot, api.ErrNone)
		}
	}
}

// P16.1: a power failure between the two records of Begin: it is called again.
func TestBeginAgain(t *testing.T) {
	for _, g := range geometries {
		for slot := range g.Drives {
			l, b := book.New(g).Records()
			begun, _, _ := Begin(g, b, slot)
			b, e := book.Read(g, l, begun[:1])
			if e != api.OK || b.Slot != slot || b.Members[slot] != slot {
				t.Fatalf("%+v: %+v, %d", g, b, e)
			}
			expectNoBegin(t, "another slot", g, b, (slot+1)%g.Drives, api.ErrState)
			b = expectBegin(t, g, b, slot)
			expectNoBegin(t, "a third time", g, b, slot, api.ErrState)
		}
	}
}
