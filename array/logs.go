package array

import (
	"corbel/api"
	"corbel/book"
	"corbel/geom"
	"corbel/notes"
	"corbel/record"
)

// noted returns the note that the row of a zone which is not full must have; none if that has no blocks.
func (a *Array) noted(z int) []notes.Note {
	row := a.rows[z]
	if row.Count() == 0 {
		return nil
	}
	now, _ := a.zones.Get(z)
	return []notes.Note{{Row: now.Length / a.perRow(), Count: row.Count(), Parity: row.Parity()}}
}

// records returns what the log of a slot is to begin with: the book, and the notes of the rows whose parity the slot will have.
func (a *Array) records(slot int) []record.Record {
	l, b := a.book.Records()
	for z, at := range b.Zones {
		for _, n := range a.noted(z) {
			if geom.Parity(a.g, z, n.Row) == slot {
				b.Seq++
				x, _ := notes.Make(b.Seq, z, at.Gen, n)
				l = append(l, x)
			}
		}
	}
	a.book = b
	return l
}

// roll begins the log of a slot anew, when all drives have durable what it tells of: of each row only the newest note remains,
// which is of use with all its blocks alone, and of a row that is full there is none.
func (a *Array) roll(slot int) api.Errno {
	return inOrder(a.flush, func() api.Errno {
		return a.reach(slot, func() api.Errno { return a.anew(slot) })
	})
}

// rollAll begins all logs anew.
func (a *Array) rollAll() api.Errno {
	return inOrder(a.flush, func() api.Errno { return a.each(a.anew) })
}

func (a *Array) anew(slot int) api.Errno {
	return a.logs[slot].Roll(a.records(slot))
}

// adopt makes b the book and writes the records that lead to it to all logs. One that has no room for them begins anew,
// with all of the book.
func (a *Array) adopt(b book.Book, l ...record.Record) api.Errno {
	a.book = b
	add := func(slot int) api.Errno {
		if a.logs[slot].Left() < len(l) {
			return a.roll(slot)
		}
		for _, x := range l {
			if e := a.logs[slot].Append(x); e != api.OK {
				return e
			}
		}
		return api.OK
	}
	return inOrder(func() api.Errno { return a.each(add) }, a.flush)
}

// note writes a note to the log of a slot.
func (a *Array) note(slot, z, gen int, n notes.Note) api.Errno {
	room := func() api.Errno {
		if a.logs[slot].Left() >= record.Blocks(record.Parity) {
			return api.OK
		}
		return a.roll(slot)
	}
	add := func() api.Errno {
		a.book.Seq++
		x, e := notes.Make(a.book.Seq, z, gen, n)
		if e != api.OK {
			return e
		}
		return a.logs[slot].Append(x)
	}
	return inOrder(
		func() api.Errno { return a.reach(slot, room) },
		func() api.Errno { return a.reach(slot, add) })
}
