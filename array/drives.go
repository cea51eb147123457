package array

import (
	"corbel/api"
	"corbel/zone"
)

// inOrder does one action after the other, up to the first error.
func inOrder(actions ...func() api.Errno) api.Errno {
	for _, act := range actions {
		if e := act(); e != api.OK {
			return e
		}
	}
	return api.OK
}

// alive reports whether the drive of a slot has not died, as far as is known.
func (a *Array) alive(slot int) bool {
	return a.logs[slot] != nil
}

// has reports whether the drive of a slot can be asked for the content of a physical zone.
func (a *Array) has(slot, phys int) bool {
	return a.alive(slot) && a.book.Has(slot, phys)
}

// heard takes in what the drive of a slot answered.
func (a *Array) heard(slot int, e api.Errno) api.Errno {
	switch e {
	case api.ErrPower:
		a.lost = true
	case api.ErrDead:
		a.miss(slot)
		if a.failed {
			return api.ErrFailed
		}
	}
	return e
}

// miss takes in that the drive of a slot has died.
func (a *Array) miss(slot int) {
	isOther := func(s int) bool { return s >= 0 && s != slot }
	a.failed = a.failed || isOther(a.missing) || isOther(a.book.Slot)
	a.missing = slot
	delete(a.logs, slot)
}

// reach does something with the drive of a slot. One that has died is passed over: the others make up for it.
func (a *Array) reach(slot int, act func() api.Errno) api.Errno {
	if !a.alive(slot) {
		return api.OK
	}
	if e := a.heard(slot, act()); e != api.ErrDead {
		return e
	}
	return api.OK
}

// each does something with the drives of all slots.
func (a *Array) each(act func(slot int) api.Errno) api.Errno {
	for slot := range a.book.Members {
		if e := a.reach(slot, func() api.Errno { return act(slot) }); e != api.OK {
			return e
		}
	}
	return api.OK
}

// command sends a command that reads nothing to the drive of a slot.
func (a *Array) command(slot int, c zone.Command, data string) api.Errno {
	_, _, e := a.rig.Do(a.book.Members[slot], c, data)
	return e
}

// put writes a block, if it is the next one of the physical zone.
func (a *Array) put(slot, phys, row int, block string) api.Errno {
	c := zone.Command{Kind: zone.Write, Zone: phys, At: row, N: 1}
	return a.reach(slot, func() api.Errno { return a.command(slot, c, block) })
}

// get reads a block. If the drive turns out to have died, it returns ErrDead, or ErrFailed if the array has failed by that.
func (a *Array) get(slot, phys, row int) (string, api.Errno) {
	c := zone.Command{Kind: zone.Read, Zone: phys, At: row, N: 1}
	text, _, e := a.rig.Do(a.book.Members[slot], c, "")
	return text, a.heard(slot, e)
}

// flush makes all that the drives have durable.
func (a *Array) flush() api.Errno {
	return a.each(func(slot int) api.Errno { return a.rig.Flush(a.book.Members[slot]) })
}

// stored returns the state of a physical zone of a slot.
func (a *Array) stored(slot, phys int) zone.Zone {
	now, _ := a.rig.Zone(a.book.Members[slot], phys)
	return now
}

// clear empties a physical zone on all drives.
func (a *Array) clear(phys int) api.Errno {
	return a.each(func(slot int) api.Errno { return a.clearOn(slot, phys) })
}

func (a *Array) clearOn(slot, phys int) api.Errno {
	if a.stored(slot, phys).State == zone.Empty {
		return api.OK
	}
	return a.command(slot, zone.Command{Kind: zone.Reset, Zone: phys}, "")
}

// seal makes a physical zone Full on all drives that have its content, so that it is not active there any more.
func (a *Array) seal(phys int) api.Errno {
	return a.each(func(slot int) api.Errno {
		if !a.book.Has(slot, phys) {
			return api.OK
		}
		return a.sealOn(slot, phys)
	})
}

func (a *Array) sealOn(slot, phys int) api.Errno {
	if a.stored(slot, phys).State == zone.Full {
		return api.OK
	}
	return a.command(slot, zone.Command{Kind: zone.Finish, Zone: phys}, "")
}
