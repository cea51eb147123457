package volume

import (
	"slices"

	"corbel/api"
	"corbel/array"
	"corbel/geom"
	"corbel/group"
	"corbel/lmap"
	"corbel/rig"
	"corbel/zone"
)

// found is what a zone has when the volume is opened: whole groups, and the blocks at which they begin. What comes after
// these blocks of whole groups is left of one that is not complete.
type found struct {
	groups []group.Group
	begins []int
	blocks int
}

// Open returns the volume on a rig, as it is after the power failed at any time.
func Open(r *rig.Rig, g api.Geometry) (*Volume, api.Errno) {
	a, e := array.Open(r, g)
	if e != api.OK {
		return nil, e
	}
	v := &Volume{rig: r, g: g, array: a, newest: lmap.New(), places: map[lmap.Where]int{}, current: noZone}
	if e := v.survey(); e != api.OK {
		return nil, e
	}
	return v, api.OK
}

// survey determines what the zones have, and prepares them to be written.
func (v *Volume) survey() api.Errno {
	l := make([]found, geom.Zones(v.g))
	for z := range l {
		f, e := v.find(z)
		if e != api.OK {
			return e
		}
		l[z] = f
	}
	if !slices.ContainsFunc(l, found.none) {
		// The power failed while the last Empty zone took the copy of another one, which still has all that is live there.
		l[last(l)] = found{}
	}
	for z, f := range l {
		for i, g := range f.groups {
			v.record(z, f.begins[i], g)
		}
		if e := v.prepare(z, f); e != api.OK {
			return e
		}
	}
	return api.OK
}

// find returns what a zone has.
func (v *Volume) find(z int) (found, api.Errno) {
	now, _ := v.array.Zone(z)
	if now.Length == 0 {
		return found{}, api.OK
	}
	text, _, e := v.array.Do(zone.Command{Kind: zone.Read, Zone: z, N: now.Length}, "")
	if e != api.OK {
		return found{}, e
	}
	var f found
	f.groups, f.begins = group.Scan(text)
	for _, g := range f.groups {
		f.blocks += group.Blocks(g.Entries)
	}
	return f, api.OK
}

// prepare makes a zone Empty if it has nothing that is of use, and Full if nothing can follow in it, as its last group is not
// complete. Otherwise it goes on where the volume was written last.
func (v *Volume) prepare(z int, f found) api.Errno {
	now, _ := v.array.Zone(z)
	switch {
	case f.none() && now.State != zone.Empty:
		return v.empty(z)
	case now.State == zone.Closed && now.Length > f.blocks:
		return v.finish(z)
	case now.State == zone.Closed:
		v.current = z
	}
	return api.OK
}

// last returns the zone that was written last.
func last(l []found) int {
	z := 0
	for i, f := range l {
		if f.seq() > l[z].seq() {
			z = i
		}
	}
	return z
}

func (f found) none() bool { return len(f.groups) == 0 }

// seq returns the Seq of the last group; there is one.
func (f found) seq() int { return f.groups[len(f.groups)-1].Seq }
