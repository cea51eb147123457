package array

import (
	"slices"

	"corbel/api"
	"corbel/book"
	"corbel/geom"
	"corbel/mend"
	"corbel/mlog"
	"corbel/notes"
	"corbel/rebuild"
	"corbel/record"
	"corbel/rig"
	"corbel/stripe"
	"corbel/tail"
	"corbel/zone"
)

// Format makes a new array, whose zones are all Empty, on the drives of a rig.
func Format(r *rig.Rig, g api.Geometry) api.Errno {
	if !fits(r, g) {
		return api.ErrArg
	}
	spare := g.Drives
	for drive := range r.Drives() {
		if e := format(r, g, drive); e != api.OK && !(e == api.ErrDead && drive == spare) {
			return e
		}
	}
	return api.OK
}

// Open returns the array on a rig, as it is after the power failed at any time.
func Open(r *rig.Rig, g api.Geometry) (*Array, api.Errno) {
	if !fits(r, g) {
		return nil, api.ErrArg
	}
	if r.Off() {
		return nil, api.ErrPower
	}
	a, l, e := find(r, g)
	if e != api.OK {
		return nil, e
	}
	// What the last rows lack is written before the logs begin anew: their notes are not written again. And nothing that
	// was moved away is emptied before all logs state that.
	e = inOrder(
		a.clearSpare,
		func() api.Errno { return a.survey(l) },
		a.rollAll,
		func() api.Errno { return a.clear(a.book.Free(g)) },
		a.mendAll)
	if e != api.OK {
		return nil, e
	}
	return a, api.OK
}

// fits reports whether there can be an array of a geometry on a rig.
func fits(r *rig.Rig, g api.Geometry) bool {
	return Good(g) && r.Drives() == g.Drives+1 && r.Blocks() == g.Blocks
}

// format empties a drive and gives it the log of a new array.
func format(r *rig.Rig, g api.Geometry, drive int) api.Errno {
	for phys := api.MetaZones; phys < g.Zones; phys++ {
		if _, _, e := r.Do(drive, zone.Command{Kind: zone.Reset, Zone: phys}, ""); e != api.OK {
			return e
		}
	}
	l, _ := book.New(g).Records()
	_, e := mlog.Format(r, drive, l)
	return e
}

// find returns the array that the logs of the drives state, with nothing known of its zones yet, and the records of its
// slots. A log of the spare drive counts, too, but its notes do not: it may have been left behind long ago.
func find(r *rig.Rig, g api.Geometry) (*Array, []record.Record, api.Errno) {
	logs := map[int]*mlog.Log{}
	lists := make([][]record.Record, r.Drives())
	for drive := range lists {
		if log, l, e := mlog.Open(r, drive); e == api.OK {
			logs[drive], lists[drive] = log, l
		}
	}
	if len(logs) == 0 {
		return nil, nil, api.ErrNone
	}
	b, e := book.Read(g, lists...)
	if e != api.OK {
		return nil, nil, api.ErrCorrupt
	}
	a := &Array{rig: r, g: g, book: b, logs: map[int]*mlog.Log{}, missing: noSlot}
	var of []record.Record
	for slot, drive := range b.Members {
		if r.Dead(drive) {
			a.miss(slot)
			continue
		}
		a.logs[slot] = logs[drive]
		of = append(of, lists[drive]...)
	}
	switch {
	case a.failed:
		return nil, nil, api.ErrFailed
	case slices.ContainsFunc(b.Members, func(drive int) bool { return !r.Dead(drive) && logs[drive] == nil }):
		return nil, nil, api.ErrCorrupt
	}
	return a, of, api.OK
}

// clearSpare empties the physical zone in which a step of rebuilding may have been interrupted.
func (a *Array) clearSpare() api.Errno {
	phys, _, ok := rebuild.Next(a.g, a.book)
	if !ok {
		return api.OK
	}
	return a.reach(a.book.Slot, func() api.Errno { return a.clearOn(a.book.Slot, phys) })
}

// survey determines what remains of the zones, by the records of the slots, and makes their last full rows complete.
func (a *Array) survey(l []record.Record) api.Errno {
	open, active := Limits(a.g)
	capacity := geom.Capacity(a.g)
	m, e := zone.New(len(a.book.Zones), capacity, open, active)
	if e != api.OK {
		return e
	}
	a.zones, a.rows = m, make([]stripe.Row, len(a.book.Zones))
	lengths := make([]int, len(a.book.Zones))
	for z := range lengths {
		if lengths[z], e = a.surveyZone(z, l); e != api.OK {
			return e
		}
		m.Do(zone.Command{Kind: zone.Append, Zone: z, N: capacity}) // Full, at first: then no limit applies
	}
	m.Lost(lengths)
	for z, at := range a.book.Zones {
		if at.State == book.Finished {
			m.Do(zone.Command{Kind: zone.Finish, Zone: z})
		}
	}
	return api.OK
}

// surveyZone returns how many blocks of a zone remain.
func (a *Array) surveyZone(z int, l []record.Record) (int, api.Errno) {
	s := a.look(z, notes.Of(l, z, a.book.Zones[z].Gen))
	length := tail.Length(a.g, z, s.view)
	if a.book.Zones[z].State == book.Emptying {
		length = 0
	}
	full, count := length/a.perRow(), length%a.perRow()
	row, e := a.row(&s, full, count)
	if e != api.OK {
		return 0, e
	}
	a.rows[z] = row
	return length, a.complete(&s, full-1)
}

// complete writes the parity of the last full row of a zone, if its drive has what is before it.
func (a *Array) complete(s *sight, number int) api.Errno {
	slot := geom.Parity(a.g, s.zone, number)
	if number < 0 || !a.has(slot, s.phys) || s.view.Lengths[slot] != number {
		return api.OK
	}
	row, e := a.row(s, number, a.perRow())
	if e != api.OK {
		return e
	}
	return a.put(slot, s.phys, number, row.Parity())
}

// mendAll makes all drives have what they are to have of each zone, and no more.
func (a *Array) mendAll() api.Errno {
	for z := range a.book.Zones {
		if e := a.mend(z); e != api.OK {
			return e
		}
	}
	return api.OK
}

// mend moves a zone that can't be repaired where it is.
func (a *Array) mend(z int) api.Errno {
	now, _ := a.zones.Get(z)
	v := a.look(z, nil).view
	deed, e := mend.Decide(a.g, z, now.Length, v.Lengths, v.Missing)
	if e != api.OK {
		return e
	}
	if deed.Kind != mend.Keep || a.book.Zones[z].State == book.Emptying {
		if e := a.move(z, now.Length); e != api.OK {
			return e
		}
	}
	if at := a.book.Zones[z]; at.State == book.Finished {
		return a.seal(at.Phys)
	}
	return api.OK
}
