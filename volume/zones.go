package volume

import (
	"corbel/api"
	"corbel/geom"
	"corbel/group"
	"corbel/lmap"
	"corbel/pick"
	"corbel/zone"
)

// store writes entries with their data.
func (v *Volume) store(l []group.Entry, data []string) api.Errno {
	for _, g := range packed(l, data) {
		if e := v.makeRoom(group.Blocks(g.Entries)); e != api.OK {
			return e
		}
		if e := v.add(g); e != api.OK {
			return e
		}
	}
	return api.OK
}

// packed returns entries as groups, as few as possible, which have no Seq yet.
func packed(l []group.Entry, data []string) []group.Group {
	var groups []group.Group
	for _, n := range pick.Split(len(l)) {
		groups = append(groups, group.Group{Entries: l[:n], Data: data[:n]})
		l, data = l[n:], data[n:]
	}
	return groups
}

// add writes a group to the current zone, which has room for it.
func (v *Volume) add(g group.Group) api.Errno {
	g.Seq = v.newest.Seq() + 1
	text, e := group.Encode(g)
	if e != api.OK {
		return e
	}
	c := zone.Command{Kind: zone.Append, Zone: v.current, N: len(text) / api.Block}
	_, at, e := v.array.Do(c, text)
	if e != api.OK {
		return e
	}
	v.record(v.current, at, g)
	if v.room() == 0 {
		return v.leave()
	}
	return api.OK
}

// record takes in that a group is in a zone, from that block on.
func (v *Volume) record(z, at int, g group.Group) {
	v.newest.Add(z, at, g)
	for i, x := range g.Entries {
		if !x.Trim {
			v.places[lmap.Where{Zone: z, At: at, Entry: i}] = at + group.Blocks(g.Entries[:i])
		}
	}
}

// room returns the number of blocks that can still be written to the current zone.
func (v *Volume) room() int {
	if v.current < 0 {
		return 0
	}
	now, _ := v.array.Zone(v.current)
	return geom.Capacity(v.g) - now.Length
}

// makeRoom sees to it that so many blocks, of one group, can be written to the current zone. The last Empty zone is kept for
// a zone that is cleaned: what is live in some zone leaves room there (layer 21).
func (v *Volume) makeRoom(blocks int) api.Errno {
	if v.room() >= blocks {
		return api.OK
	}
	if e := v.leave(); e != api.OK {
		return e
	}
	if _, n := pick.Empty(v.zones()); n < 2 {
		if _, e := v.clean(); e != api.OK || v.room() >= blocks {
			return e
		}
	}
	return v.begin()
}

// zones returns the zones as layer 20 considers them, but for what is live in them: that is to be counted.
func (v *Volume) zones() []pick.Zone {
	l := make([]pick.Zone, geom.Zones(v.g))
	for z := range l {
		now, _ := v.array.Zone(z)
		l[z] = pick.Zone{Length: now.Length, Open: z == v.current}
	}
	return l
}

// victim returns the zone that is to be cleaned; -1 if there is none.
func (v *Volume) victim() int {
	l := v.zones()
	for z, n := range v.newest.Counts(len(l)) {
		l[z].Live = n
	}
	return pick.Victim(l)
}

// begin makes an Empty zone the current one.
func (v *Volume) begin() api.Errno {
	if e := v.leave(); e != api.OK {
		return e
	}
	z, _ := pick.Empty(v.zones())
	if z < 0 {
		return api.ErrFull // only if the zones have been filled by other means than this package
	}
	v.current = z
	return api.OK
}

// leave makes the current zone one that is no longer written.
func (v *Volume) leave() api.Errno {
	if v.current < 0 {
		return api.OK
	}
	e := v.finish(v.current)
	v.current = noZone
	return e
}

// finish makes a zone Full, as the array may permit no more than one that is active. It is durable then, with all before it:
// what is written to another zone afterwards could outlast it otherwise.
func (v *Volume) finish(z int) api.Errno {
	return v.durably(zone.Command{Kind: zone.Finish, Zone: z})
}

// empty makes a zone Empty. That is durable before another zone can be begun: with all of them in use, the one that was
// written last is taken for an unfinished copy when the volume is opened.
func (v *Volume) empty(z int) api.Errno {
	for w := range v.places {
		if w.Zone == z {
			delete(v.places, w)
		}
	}
	return v.durably(zone.Command{Kind: zone.Reset, Zone: z})
}

// durably executes a command, and makes it durable.
func (v *Volume) durably(c zone.Command) api.Errno {
	if _, _, e := v.array.Do(c, ""); e != api.OK {
		return e
	}
	return v.array.Flush()
}

// clean copies what is live in a zone that is no longer written, and empties it when the copy is durable. It returns false if
// there is no such zone.
func (v *Volume) clean() (bool, api.Errno) {
	z := v.victim()
	if z < 0 {
		return false, api.OK
	}
	if e := v.copyLive(z); e != api.OK {
		return false, e
	}
	if e := v.array.Flush(); e != api.OK {
		return false, e
	}
	if e := v.empty(z); e != api.OK {
		return false, e
	}
	return true, api.OK
}

// copyLive writes the entries that are live in a zone to the current one, or, if they do not fit in there, to an Empty one,
// in which they always do.
func (v *Volume) copyLive(z int) api.Errno {
	l, data, e := v.live(z)
	if e != api.OK {
		return e
	}
	groups := packed(l, data)
	blocks := 0
	for _, g := range groups {
		blocks += group.Blocks(g.Entries)
	}
	if v.room() < blocks {
		if e := v.begin(); e != api.OK {
			return e
		}
	}
	for _, g := range groups {
		if e := v.add(g); e != api.OK {
			return e
		}
	}
	return api.OK
}

// live returns the entries that are live in a zone, with their data.
func (v *Volume) live(z int) ([]group.Entry, []string, api.Errno) {
	var l []group.Entry
	var data []string
	for _, x := range v.newest.Live(z) {
		text := ""
		if !x.Trim {
			var e api.Errno
			if text, e = v.stored(x.Where); e != api.OK {
				return nil, nil, e
			}
		}
		l, data = append(l, group.Entry{Block: x.Block, Trim: x.Trim}), append(data, text)
	}
	return l, data, api.OK
}
