package mlog

import (
	"slices"

	"corbel/api"
	"corbel/record"
	"corbel/rig"
	"corbel/zone"
)

// medium is the drive that a log is on.
type medium struct {
	rig   *rig.Rig
	drive int
}

// begin replaces all that a zone has by text, and makes it durable.
func (m medium) begin(z int, text string) api.Errno {
	if e := m.reset(z); e != api.OK {
		return e
	}
	if e := m.write(z, text); e != api.OK {
		return e
	}
	return m.rig.Flush(m.drive)
}

func (m medium) reset(z int) api.Errno {
	_, _, e := m.rig.Do(m.drive, zone.Command{Kind: zone.Reset, Zone: z}, "")
	return e
}

// write appends text to a zone, all of it by one command.
func (m medium) write(z int, text string) api.Errno {
	_, _, e := m.rig.Do(m.drive, zone.Command{Kind: zone.Append, Zone: z, N: blocksOf(text)}, text)
	return e
}

// read returns all blocks of a zone.
func (m medium) read(z int) (string, api.Errno) {
	now, _ := m.rig.Zone(m.drive, z)
	if now.Length == 0 {
		return "", api.OK
	}
	text, _, e := m.rig.Do(m.drive, zone.Command{Kind: zone.Read, Zone: z, N: now.Length}, "")
	return text, e
}

// contents are those of a zone whose log is complete.
type contents struct {
	gen     int
	records []record.Record
	torn    bool
}

// parse returns what the blocks of a zone contain; false if its log is not complete.
func parse(text string) (contents, bool) {
	l, blocks := record.Scan(text)
	if len(l) == 0 || l[0].Kind != record.Head {
		return contents{}, false
	}
	gen := l[0].C
	if !slices.ContainsFunc(l, func(x record.Record) bool { return x.Kind == record.Done && x.C == gen }) {
		return contents{}, false
	}
	return contents{gen: gen, records: slices.DeleteFunc(l, isMark), torn: blocks < blocksOf(text)}, true
}
