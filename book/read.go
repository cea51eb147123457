package book

import (
	"slices"

	"corbel/api"
	"corbel/geom"
	"corbel/record"
)

// subject is what a record is about: a logical zone, a slot, or the Slot that is being rebuilt with its Cursor.
type subject struct{ kind, number int }

// Read returns the book that the newest records of all lists state.
func Read(g api.Geometry, lists ...[]record.Record) (Book, api.Errno) {
	if !geom.Good(g) {
		return Book{}, api.ErrArg
	}
	found := newest(lists...)
	b := New(g)
	for _, s := range subjects(g) {
		x, ok := found[s]
		if !ok || !possible(g, x) {
			return Book{}, api.ErrCorrupt
		}
		b.take(x)
	}
	if !apart(g, b.Zones) || !distinct(b.Members) {
		return Book{}, api.ErrCorrupt
	}
	b.Seq = found[subject{kind: record.Cursor}].Seq
	for _, l := range lists {
		for _, x := range l {
			b.Seq = max(b.Seq, x.Seq)
		}
	}
	return b, api.OK
}

// newest returns for each subject the record with the greatest Seq, of equal ones the first.
func newest(lists ...[]record.Record) map[subject]record.Record {
	found := map[subject]record.Record{}
	for _, l := range lists {
		for _, x := range l {
			s := subjectOf(x)
			if best, ok := found[s]; !ok || x.Seq > best.Seq {
				found[s] = x
			}
		}
	}
	return found
}

func subjectOf(x record.Record) subject {
	if x.Kind == record.Cursor { // there is one only, whichever slot its A is
		return subject{kind: record.Cursor}
	}
	return subject{x.Kind, x.A}
}

// subjects returns all that a book has a record of.
func subjects(g api.Geometry) []subject {
	l := []subject{{kind: record.Cursor}}
	for z := range geom.Zones(g) {
		l = append(l, subject{record.Map, z})
	}
	for slot := range g.Drives {
		l = append(l, subject{record.Member, slot})
	}
	return l
}

// possible reports whether a record of a subject has numbers that a book can have.
func possible(g api.Geometry, x record.Record) bool {
	switch {
	case x.Kind == record.Map:
		return x.B >= api.MetaZones && x.B < g.Zones && x.D >= Usual && x.D <= Finished
	case x.Kind == record.Member:
		return isIndex(x.B, g.Drives+1) // with the spare one
	case x.A == noSlotA:
		return x.B == 0
	}
	return isIndex(x.A, g.Drives) && x.B >= 0 && x.B <= g.Zones
}

// apart reports whether each zone is stored in a physical one of its own.
func apart(g api.Geometry, zones []Zone) bool {
	stored := make([]Zone, g.Zones) // a zone that is stored is never the zero Zone: physical zone 0 is for records
	for _, z := range zones {
		if stored[z.Phys] != (Zone{}) {
			return false
		}
		stored[z.Phys] = z
	}
	return true
}

// distinct reports whether each slot has a drive of its own.
func distinct(members []int) bool {
	for slot, drive := range members {
		if slices.Index(members, drive) != slot {
			return false
		}
	}
	return true
}
