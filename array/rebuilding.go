package array

import (
	"corbel/api"
	"corbel/book"
	"corbel/mlog"
	"corbel/rebuild"
)

// Rebuild executes a step of rebuilding, if a drive is missing or a slot is being rebuilt. It reports whether nothing remains
// to be rebuilt.
func (a *Array) Rebuild() (bool, api.Errno) {
	e := a.Flush() // by which a drive that died is detected
	switch {
	case e != api.OK:
		return false, e
	case a.missing >= 0:
		e = a.begin()
	case a.book.Slot >= 0:
		e = a.advance()
	}
	if e != api.OK {
		return false, e
	}
	return a.book.Slot < 0, api.OK
}

// begin assigns the spare drive to the slot whose drive has died. The log that it gets states that already, and has the notes
// that are the slot's: so those of a zone are complete when its blocks have been rebuilt.
func (a *Array) begin() api.Errno {
	slot, spare := a.missing, a.g.Drives
	if a.rig.Dead(spare) {
		return api.ErrNone
	}
	l, b, e := rebuild.Begin(a.g, a.book, slot)
	if e != api.OK {
		return e
	}
	a.book = b
	log, e := mlog.Format(a.rig, spare, a.records(slot))
	if e := a.heard(slot, e); e != api.OK {
		return e
	}
	a.logs[slot], a.missing = log, noSlot
	return a.adopt(a.book, l...)
}

// advance rebuilds the next physical zone.
func (a *Array) advance() api.Errno {
	phys, z, ok := rebuild.Next(a.g, a.book)
	refill := func() api.Errno {
		if !ok || z < 0 {
			return api.OK
		}
		return a.refill(z, phys)
	}
	state := func() api.Errno {
		x, b, e := rebuild.Advance(a.g, a.book)
		if e != api.OK {
			return e
		}
		return a.adopt(b, x)
	}
	return inOrder(refill, a.flush, state)
}

// refill writes to the drive of the slot that is being rebuilt what it is to have of a zone.
func (a *Array) refill(z, phys int) api.Errno {
	slot := a.book.Slot
	now, _ := a.zones.Get(z)
	s := a.look(z, a.noted(z))
	for _, t := range rebuild.Tasks(a.g, z, now.Length, slot) {
		text, e := a.content(&s, t)
		if e != api.OK {
			return e
		}
		if e := a.put(slot, phys, t.Row, text); e != api.OK {
			return e
		}
	}
	if a.book.Zones[z].State != book.Finished {
		return api.OK
	}
	return a.reach(slot, func() api.Errno { return a.sealOn(slot, phys) })
}

// content returns what a task is to write.
func (a *Array) content(s *sight, t rebuild.Task) (string, api.Errno) {
	if !t.Parity {
		return a.fetch(s, t.Block)
	}
	row, e := a.row(s, t.Row, a.perRow())
	return row.Parity(), e
}
