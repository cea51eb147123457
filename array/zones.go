package array

import (
	"corbel/api"
	"corbel/book"
	"corbel/geom"
	"corbel/record"
	"corbel/stripe"
	"corbel/zone"
)

// extend writes blocks to the end of a zone. One that is then full is made durable at once: if it lost blocks in a power
// failure it would be active again, beside as many others as the drives permit.
func (a *Array) extend(z, from int, data string) api.Errno {
	row, e := a.write(z, a.book.Zones[z], a.rows[z], from, data)
	if e != api.OK {
		return e
	}
	a.rows[z] = row
	if from+len(data)/api.Block == geom.Capacity(a.g) {
		return a.flush()
	}
	return api.OK
}

// finish makes a zone Full. Its blocks are durable before that is stated: a zone that is finished needs no repair.
func (a *Array) finish(z int) api.Errno {
	if now, _ := a.zones.Get(z); now.State == zone.Full {
		return api.OK
	}
	at := a.book.Zones[z]
	at.State = book.Finished
	return inOrder(a.flush,
		func() api.Errno { return a.state(z, at) },
		func() api.Errno { return a.seal(at.Phys) })
}

// empty makes a zone Empty, in the free physical zone: so it is all there, or Empty, whenever the power fails.
func (a *Array) empty(z int) api.Errno {
	now, _ := a.zones.Get(z)
	if now.Length == 0 && a.book.Zones[z].State == book.Usual {
		return api.OK
	}
	row, e := stripe.New(a.perRow())
	if e != api.OK {
		return e
	}
	a.rows[z] = row
	return a.remap(z, a.elsewhere(z))
}

// move writes the first blocks of a zone, as many as it has, to the free physical zone, where it is from then on.
func (a *Array) move(z, blocks int) api.Errno {
	at := a.elsewhere(z)
	write := func() api.Errno {
		row, e := stripe.New(a.perRow())
		if e != api.OK || blocks == 0 {
			return e
		}
		text, e := a.read(z, 0, blocks)
		if e != api.OK {
			return e
		}
		_, e = a.write(z, at, row, 0, text)
		return e
	}
	return inOrder(write, a.flush, func() api.Errno { return a.remap(z, at) })
}

// elsewhere returns where a zone is after it has been moved. No note of the old content is one of its generation there.
func (a *Array) elsewhere(z int) book.Zone {
	return book.Zone{Phys: a.book.Free(a.g), Gen: a.book.Zones[z].Gen + 1}
}

// remap states that a zone is where it has been moved. The physical zone where it was is emptied, and free from then on:
// not before that is durable, as the zone would be lost otherwise.
func (a *Array) remap(z int, at book.Zone) api.Errno {
	old := a.book.Zones[z].Phys
	return inOrder(
		func() api.Errno { return a.state(z, at) },
		func() api.Errno { return a.clear(old) })
}

// state writes to all logs where a zone is, and in which state.
func (a *Array) state(z int, at book.Zone) api.Errno {
	x := record.Record{Kind: record.Map, Seq: a.book.Seq + 1, A: z, B: at.Phys, C: at.Gen, D: at.State}
	return a.adopt(a.book.Note(x), x)
}
