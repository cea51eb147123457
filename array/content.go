package array

import (
	"strings"

	"corbel/api"
	"corbel/book"
	"corbel/geom"
	"corbel/notes"
	"corbel/plan"
	"corbel/stripe"
	"corbel/tail"
)

// sight is what there is of a logical zone: its view, and the notes that the view tells of.
type sight struct {
	zone, phys int
	view       tail.View
	notes      []notes.Note
}

// look returns what the drives have of a zone now.
func (a *Array) look(z int, l []notes.Note) sight {
	s := sight{zone: z, phys: a.book.Zones[z].Phys, view: tail.View{Missing: noSlot}, notes: l}
	for slot := range a.book.Members {
		s.view.Lengths = append(s.view.Lengths, a.stored(slot, s.phys).Length)
		if !a.has(slot, s.phys) {
			s.view.Missing = slot
		}
	}
	for _, n := range l {
		s.view.Notes = append(s.view.Notes, tail.Noted{Row: n.Row, Count: n.Count})
	}
	return s
}

// fetch returns a block of a zone. If a drive turns out to have died, it looks at the zone once more: after a second one the
// array has failed.
func (a *Array) fetch(s *sight, block int) (string, api.Errno) {
	text, e := a.bySource(s, block)
	if e == api.ErrDead {
		*s = a.look(s.zone, s.notes)
		text, e = a.bySource(s, block)
	}
	return text, e
}

// bySource returns a block of a zone by the source that there is.
func (a *Array) bySource(s *sight, block int) (string, api.Errno) {
	row, slot, _ := geom.Place(a.g, s.zone, block)
	kind, n := tail.Source(a.g, s.zone, s.view, block)
	switch kind {
	case tail.Direct:
		return a.get(slot, s.phys, row)
	case tail.Row:
		parity, e := a.get(geom.Parity(a.g, s.zone, row), s.phys, row)
		if e != api.OK {
			return "", e
		}
		return a.restore(s, block, a.perRow(), parity)
	case tail.Note:
		return a.restore(s, block, s.notes[n].Count, s.notes[n].Parity)
	}
	return "", api.ErrCorrupt
}

// restore returns a block by the parity of so many first blocks of its row.
func (a *Array) restore(s *sight, block, count int, parity string) (string, api.Errno) {
	index := block % a.perRow()
	l := make([]string, count)
	for k := range l {
		if k == index {
			continue
		}
		row, slot, _ := geom.Place(a.g, s.zone, block-index+k)
		text, e := a.get(slot, s.phys, row)
		if e != api.OK {
			return "", e
		}
		l[k] = text
	}
	return stripe.Restore(parity, l, index)
}

// row returns the first blocks of a row of a zone.
func (a *Array) row(s *sight, number, count int) (stripe.Row, api.Errno) {
	row, e := stripe.New(a.perRow())
	for k := 0; k < count && e == api.OK; k++ {
		var text string
		if text, e = a.fetch(s, number*a.perRow()+k); e == api.OK {
			row, e = row.Add(text)
		}
	}
	return row, e
}

// read returns blocks of a zone.
func (a *Array) read(z, from, n int) (string, api.Errno) {
	var b strings.Builder
	s := a.look(z, a.noted(z))
	for i := range n {
		text, e := a.fetch(&s, from+i)
		if e != api.OK {
			return "", e
		}
		b.WriteString(text)
	}
	return b.String(), api.OK
}

// write writes blocks of a zone to the physical one that at states, from one on, by which row is continued. It returns the
// row that is then not full.
func (a *Array) write(z int, at book.Zone, row stripe.Row, from int, data string) (stripe.Row, api.Errno) {
	steps, e := plan.Write(a.g, z, from, len(data)/api.Block)
	if e != api.OK {
		return stripe.Row{}, e
	}
	for _, s := range steps {
		switch s.Kind {
		case plan.Data:
			start := (s.Block - from) * api.Block
			row, e = a.writeBlock(at, row, s, data[start:start+api.Block])
		case plan.Parity:
			row, e = a.writeParity(at, row, s)
		case plan.Note:
			e = a.note(s.Slot, z, at.Gen, notes.Note{Row: s.Row, Count: s.Count, Parity: row.Parity()})
		}
		if e != api.OK {
			return stripe.Row{}, e
		}
	}
	return row, api.OK
}

// writeBlock returns the row with one more block: a copy, as all of the data would be kept with a part of it.
func (a *Array) writeBlock(at book.Zone, row stripe.Row, s plan.Step, block string) (stripe.Row, api.Errno) {
	row, e := row.Add(strings.Clone(block))
	if e == api.OK && a.book.Has(s.Slot, at.Phys) {
		e = a.put(s.Slot, at.Phys, s.Row, block)
	}
	return row, e
}

// writeParity returns the row after a full one.
func (a *Array) writeParity(at book.Zone, row stripe.Row, s plan.Step) (stripe.Row, api.Errno) {
	next, e := stripe.New(a.perRow())
	if e == api.OK && a.book.Has(s.Slot, at.Phys) {
		e = a.put(s.Slot, at.Phys, s.Row, row.Parity())
	}
	return next, e
}

// perRow returns the number of logical blocks of a row: all slots but one have one.
func (a *Array) perRow() int {
	return a.g.Drives - 1
}
