package book

import (
	"math"
	"slices"
	"testing"

	"corbel/api"
	"corbel/record"
)

// wild are numbers that are no index and no number of anything.
var wild = []int{-1, -2, math.MinInt, math.MinInt + 1, 1 << 20, 1 << 32, math.MaxInt - 1, math.MaxInt}

// small has three logical zones, stored in four physical ones, from 2 to 5.
var small = api.Geometry{Drives: 3, Zones: 6, Blocks: 26, Open: 2, Active: 6}

// geometries are valid: the least and the greatest ones, and others.
var geometries = []api.Geometry{
	small,
	{Drives: 3, Zones: 5, Blocks: 4, Open: 1, Active: 1},
	{Drives: 16, Zones: 64, Blocks: 256, Open: 64, Active: 64},
	{Drives: 16, Zones: 5, Blocks: 4, Open: 1, Active: 5},
	{Drives: 3, Zones: 64, Blocks: 4, Open: 1, Active: 1},
	{Drives: 5, Zones: 9, Blocks: 40, Open: 3, Active: 7},
}

// badGeometries are each one number away from a valid one.
var badGeometries = []api.Geometry{
	{},
	{Drives: 2, Zones: 6, Blocks: 26, Open: 2, Active: 6},
	{Drives: 17, Zones: 6, Blocks: 26, Open: 2, Active: 6},
	{Drives: 3, Zones: 4, Blocks: 26, Open: 2, Active: 4},
	{Drives: 3, Zones: 65, Blocks: 26, Open: 2, Active: 6},
	{Drives: 3, Zones: 6, Blocks: 3, Open: 2, Active: 6},
	{Drives: 3, Zones: 6, Blocks: 257, Open: 2, Active: 6},
	{Drives: 3, Zones: 6, Blocks: 26, Open: 0, Active: 6},
	{Drives: 3, Zones: 6, Blocks: 26, Open: 2, Active: 7},
	{Drives: 3, Zones: math.MaxInt, Blocks: 26, Open: 2, Active: 6},
	{Drives: math.MinInt, Zones: math.MinInt, Blocks: math.MinInt, Open: math.MinInt, Active: math.MinInt},
}

func same(a, b Book) bool {
	return a.Seq == b.Seq && slices.Equal(a.Zones, b.Zones) && slices.Equal(a.Members, b.Members) && a.Slot == b.Slot && a.Cursor == b.Cursor
}

func expect(t *testing.T, what string, got, want Book) {
	t.Helper()
	if !same(got, want) {
		t.Errorf("%s: %+v, want %+v", what, got, want)
	}
}

// used is a book of small that differs from New in everything.
func used() Book {
	return Book{Seq: 40, Zones: []Zone{{4, 7, Emptying}, {2, 1, Usual}, {5, 1 << 40, Finished}}, Members: []int{2, 3, 1}, Slot: 1, Cursor: 4}
}

// settled is used without a slot that is being rebuilt.
func settled() Book {
	b := used()
	b.Slot, b.Cursor = -1, 0
	return b
}

func mapOf(seq, zone, phys, gen, state int) record.Record {
	return record.Record{Kind: record.Map, Seq: seq, A: zone, B: phys, C: gen, D: state}
}

func member(seq, slot, drive int) record.Record {
	return record.Record{Kind: record.Member, Seq: seq, A: slot, B: drive}
}

func cursor(seq, slot, phys int) record.Record {
	return record.Record{Kind: record.Cursor, Seq: seq, A: slot, B: phys}
}

// The numbers of states are the document's.
func TestStates(t *testing.T) {
	if Usual != 0 || Emptying != 1 || Finished != 2 {
		t.Error(Usual, Emptying, Finished)
	}
}

// P10.1: New for valid geometries.
func TestNew(t *testing.T) {
	expect(t, "small", New(small), Book{Zones: []Zone{{2, 1, 0}, {3, 1, 0}, {4, 1, 0}}, Members: []int{0, 1, 2}, Slot: -1})
	for _, g := range geometries {
		b := New(g)
		if b.Seq != 0 || b.Slot != -1 || b.Cursor != 0 || len(b.Zones) != g.Zones-3 || len(b.Members) != g.Drives {
			t.Fatalf("%+v: %+v", g, b)
		}
		for i, z := range b.Zones {
			if z != (Zone{Phys: i + 2, Gen: 1}) {
				t.Errorf("%+v: zone %d is %+v", g, i, z)
			}
		}
		for slot, drive := range b.Members {
			if slot != drive {
				t.Errorf("%+v: slot %d has drive %d", g, slot, drive)
			}
		}
	}
}

// P10.1: New for geometries that are not valid.
func TestNewWrong(t *testing.T) {
	for _, g := range badGeometries {
		expect(t, "New", New(g), Book{Slot: -1})
	}
}

// P10.1: books share nothing with each other.
func TestNewOwn(t *testing.T) {
	a, b := New(small), New(small)
	clear(a.Zones)
	clear(a.Members)
	expect(t, "the other", b, Book{Zones: []Zone{{2, 1, 0}, {3, 1, 0}, {4, 1, 0}}, Members: []int{0, 1, 2}, Slot: -1})
}

// P10.3: what each kind of record changes, and that nothing else changes.
func TestNote(t *testing.T) {
	for _, c := range []struct {
		name   string
		x      record.Record
		change func(b *Book)
	}{
		{"a Map", mapOf(50, 1, 3, 9, 2), func(b *Book) { b.Seq, b.Zones[1] = 50, Zone{3, 9, 2} }},
		{"the first Map", mapOf(41, 0, 2, 0, 0), func(b *Book) { b.Seq, b.Zones[0] = 41, Zone{2, 0, 0} }},
		{"the last Map", mapOf(41, 2, 2, 1, 1), func(b *Book) { b.Seq, b.Zones[2] = 41, Zone{2, 1, 1} }},
		{"the Seq of the book", mapOf(40, 2, 3, 4, 1), func(b *Book) { b.Zones[2] = Zone{3, 4, 1} }},
		{"a lesser Seq", mapOf(39, 2, 3, 4, 1), func(b *Book) { b.Zones[2] = Zone{3, 4, 1} }},
		{"a Map that is not possible", mapOf(41, 0, 65535, 5, 99), func(b *Book) { b.Seq, b.Zones[0] = 41, Zone{65535, 5, 99} }},
		{"a Map with negative numbers", mapOf(-1, 0, -2, -3, -4), func(b *Book) { b.Zones[0] = Zone{-2, -3, -4} }},
		{"what it is already", mapOf(41, 1, 2, 1, 0), func(b *Book) { b.Seq = 41 }},
		{"no zone", mapOf(41, 3, 2, 1, 0), func(b *Book) { b.Seq = 41 }},
		{"no zone, negative", mapOf(41, -1, 2, 1, 0), func(b *Book) { b.Seq = 41 }},
		{"no zone, great", mapOf(7, math.MaxInt, 2, 1, 0), func(b *Book) {}},
		{"a Member", member(41, 0, 3), func(b *Book) { b.Seq, b.Members[0] = 41, 3 }},
		{"the last Member", member(1, 2, 0), func(b *Book) { b.Members[2] = 0 }},
		{"a Member that is not possible", member(1, 2, 999), func(b *Book) { b.Members[2] = 999 }},
		{"no slot", member(41, 3, 0), func(b *Book) { b.Seq = 41 }},
		{"no slot, negative", member(41, -1, 0), func(b *Book) { b.Seq = 41 }},
		{"no slot, least", member(41, math.MinInt, 0), func(b *Book) { b.Seq = 41 }},
		{"a Cursor", cursor(41, 2, 5), func(b *Book) { b.Seq, b.Slot, b.Cursor = 41, 2, 5 }},
		{"a Cursor of slot 0", cursor(4, 0, 2), func(b *Book) { b.Slot, b.Cursor = 0, 2 }},
		{"a Cursor that states none", cursor(41, 65535, 0), func(b *Book) { b.Seq, b.Slot, b.Cursor = 41, -1, 0 }},
		{"a Cursor that states none, not 0", cursor(41, 65535, 7), func(b *Book) { b.Seq, b.Slot, b.Cursor = 41, -1, 7 }},
		{"a Cursor that is not possible", cursor(41, 65534, 9999), func(b *Book) { b.Seq, b.Slot, b.Cursor = 41, 65534, 9999 }},
		{"a Parity", record.Record{Kind: record.Parity, Seq: 41, A: 1, B: 3, C: 9, D: 2}, func(b *Book) { b.Seq = 41 }},
		{"a Head", record.Record{Kind: record.Head, Seq: 41, A: 1, C: 9}, func(b *Book) { b.Seq = 41 }},
		{"a Done", record.Record{Kind: record.Done, A: 1, B: 3, C: 9}, func(b *Book) {}},
		{"no kind", record.Record{Seq: 77, A: 1, B: 3}, func(b *Book) { b.Seq = 77 }},
		{"a kind that there is not", record.Record{Kind: 7, Seq: 77, A: 1, B: 3}, func(b *Book) { b.Seq = 77 }},
	} {
		b, want := used(), used()
		c.change(&want)
		got := b.Note(c.x)
		expect(t, c.name, got, want)
		expect(t, c.name+": the receiver", b, used())
		clear(got.Zones)
		clear(got.Members)
		expect(t, c.name+": the receiver afterwards", b, used())
	}
}

// P10.3: the spare capacity of a book's lists is not used either.
func TestNoteCapacity(t *testing.T) {
	b := used()
	b.Zones, b.Members = b.Zones[:1], b.Members[:1]
	for _, x := range []record.Record{mapOf(99, 1, 9, 9, 9), mapOf(99, 0, 9, 9, 9), member(99, 1, 9), member(99, 0, 9)} {
		got := b.Note(x)
		_ = append(got.Zones, Zone{8, 8, 8})
		_ = append(got.Members, 8)
	}
	b.Records()
	b.Zones, b.Members = b.Zones[:3], b.Members[:3]
	expect(t, "the receiver", b, used())
}

// P10.3: a book without zones and slots.
func TestNoteEmpty(t *testing.T) {
	for _, x := range []record.Record{mapOf(3, 0, 2, 1, 0), member(3, 0, 0), {Kind: record.Parity, Seq: 3}} {
		expect(t, "Note", Book{}.Note(x), Book{Seq: 3})
	}
	expect(t, "Note", Book{}.Note(cursor(3, 1, 2)), Book{Seq: 3, Slot: 1, Cursor: 2})
}

func expectRecords(t *testing.T, b Book, want []record.Record, seq int) {
	t.Helper()
	before := b.clone()
	l, after := b.Records()
	if !slices.Equal(l, want) {
		t.Errorf("Records of %+v: %+v, want %+v", b, l, want)
	}
	expect(t, "the receiver", b, before)
	before.Seq = seq
	expect(t, "the book of Records", after, before)
	clear(after.Zones)
	clear(after.Members)
	before.Seq = b.Seq
	expect(t, "the receiver afterwards", b, before)
}

// P10.3: the Members, the Maps and the Cursor, with the next Seqs.
func TestRecords(t *testing.T) {
	l := []record.Record{
		member(41, 0, 2), member(42, 1, 3), member(43, 2, 1),
		mapOf(44, 0, 4, 7, 1), mapOf(45, 1, 2, 1, 0), mapOf(46, 2, 5, 1<<40, 2),
	}
	expectRecords(t, used(), append(slices.Clone(l), cursor(47, 1, 4)), 47)
	expectRecords(t, settled(), append(slices.Clone(l), cursor(47, 65535, 0)), 47)
	expectRecords(t, New(small), []record.Record{
		member(1, 0, 0), member(2, 1, 1), member(3, 2, 2),
		mapOf(4, 0, 2, 1, 0), mapOf(5, 1, 3, 1, 0), mapOf(6, 2, 4, 1, 0),
		cursor(7, 65535, 0),
	}, 7)
	expectRecords(t, Book{Seq: 5}, []record.Record{cursor(6, 0, 0)}, 6)
	expectRecords(t, Book{Seq: 5, Slot: -1, Cursor: 3}, []record.Record{cursor(6, 65535, 0)}, 6)
	expectRecords(t, Book{Slot: 2, Cursor: 3, Members: []int{9}}, []record.Record{member(1, 0, 9), cursor(2, 2, 3)}, 2)
}

// P10.2, P10.3: Read of Records is the book again, and so is Note of each of them.
func TestRecordsBack(t *testing.T) {
	for _, g := range geometries {
		b := New(g)
		for i := range b.Zones {
			b.Zones[i] = Zone{Phys: g.Zones - 1 - i, Gen: 3 * i, State: i % 3}
		}
		b.Members[0], b.Seq = g.Drives, 1000
		for _, slot := range []int{-1, 0, g.Drives - 1} {
			b.Slot, b.Cursor = slot, 0
			if slot >= 0 {
				b.Cursor = g.Zones - slot%2
			}
			l, after := b.Records()
			if got, e := Read(g, l); e != api.OK || !same(got, after) {
				t.Errorf("%+v: %+v, %d, want %+v", g, got, e, after)
			}
			noted := New(g)
			for _, x := range l {
				noted = noted.Note(x)
			}
			expect(t, "noted", noted, after)
		}
	}
}

func expectFree(t *testing.T, g api.Geometry, want int, phys ...int) {
	t.Helper()
	b := Book{}
	for _, n := range phys {
		b.Zones = append(b.Zones, Zone{Phys: n, Gen: 1})
	}
	if got := b.Free(g); got != want {
		t.Errorf("Free with %v = %d, want %d", phys, got, want)
	}
}

// P10.4: the least physical zone that is free.
func TestFree(t *testing.T) {
	expectFree(t, geometries[1], 4, 2, 3) // the document's example
	for _, g := range geometries {
		b := New(g)
		if got := b.Free(g); got != g.Zones-1 {
			t.Errorf("Free of New for %+v = %d", g, got)
		}
		for i := range b.Zones {
			was := b.Zones[i].Phys
			b.Zones[i].Phys = g.Zones - 1
			if got := b.Free(g); got != was {
				t.Errorf("Free without %d = %d", was, got)
			}
			b.Zones[i].Phys = was
		}
	}
	expectFree(t, small, 3, 5, 4, 2)
	expectFree(t, small, 2, 5, 3, 4)
	expectFree(t, small, 2, 4)
	expectFree(t, small, 3, 2)
	expectFree(t, small, 2)
	expectFree(t, small, -1, 2, 3, 4, 5)
	expectFree(t, small, -1, 5, 3, 2, 4, 4)
	expectFree(t, small, 2, append([]int{0, 1, 6, 7, 64}, wild...)...)
	expectFree(t, small, 4, append([]int{3, 0, 1, 2}, wild...)...)
	expectFree(t, api.Geometry{}, -1, 2, 3)
	expectFree(t, badGeometries[len(badGeometries)-1], -1, 2, 3)
}

// P10.4: which slots have the content of which physical zones.
func TestHas(t *testing.T) {
	for _, b := range []Book{used(), settled(), {Members: []int{0, 1, 2}, Slot: 0, Cursor: 2}, {Members: []int{0, 1, 2}, Slot: 2, Cursor: 6}} {
		for slot := range 3 {
			for phys := 2; phys < 6; phys++ {
				if got, want := b.Has(slot, phys), b.Slot != slot || phys < b.Cursor; got != want {
					t.Errorf("slot %d, zone %d of %+v: %v", slot, phys, b, got)
				}
			}
		}
		for _, slot := range append([]int{3, 4, 16}, wild...) {
			for _, phys := range append([]int{0, 2, 5}, wild...) {
				if b.Has(slot, phys) {
					t.Errorf("slot %d has zone %d", slot, phys)
				}
			}
		}
	}
	b := used()
	for phys, want := range []bool{2: true, 3: true, 4: false, 5: false} {
		if phys >= 2 && (b.Has(1, phys) != want || !b.Has(0, phys) || !b.Has(2, phys)) {
			t.Errorf("zone %d", phys)
		}
	}
	if (Book{}).Has(0, 2) || New(api.Geometry{}).Has(0, 2) || New(api.Geometry{}).Has(-1, 2) {
		t.Error("a book without slots has something")
	}
}
