package tail

import (
	"slices"
	"testing"

	"corbel/api"
	"corbel/geom"
	"corbel/plan"
)

// noteRecord is what a drive's log has of a row that is not full: what the document's layers 13 and 14 call a note.
type noteRecord struct {
	Noted
	parity int
}

// written is a zone on its way to the drives: what each of them was given in order, and how much of it was flushed.
// The content of a block is a number, which no other sum of a few blocks is likely to be.
type written struct {
	g             api.Geometry
	zone          int
	blocks        []int // of the zone
	flushed       int
	data          [][]int // of each slot
	notes         [][]noteRecord
	lasting       []int // of data
	lastingNotes  []int
	contentOfNext func() int
}

func newWritten(g api.Geometry, zone int) *written {
	d := draws(99)
	return &written{
		g: g, zone: zone,
		data: make([][]int, g.Drives), notes: make([][]noteRecord, g.Drives),
		lasting: make([]int, g.Drives), lastingNotes: make([]int, g.Drives),
		contentOfNext: func() int { return d.next(1 << 30) },
	}
}

// write does the steps of layer 13 for the next n blocks.
func (w *written) write(n int) {
	from := len(w.blocks)
	for range n {
		w.blocks = append(w.blocks, w.contentOfNext())
	}
	perRow := w.g.Drives - 1
	steps, _ := plan.Write(w.g, w.zone, from, n)
	for _, s := range steps {
		first := s.Row * perRow
		switch s.Kind {
		case plan.Data:
			w.data[s.Slot] = append(w.data[s.Slot], w.blocks[s.Block])
		case plan.Parity:
			w.data[s.Slot] = append(w.data[s.Slot], sum(w.blocks[first:first+perRow]))
		case plan.Note:
			w.notes[s.Slot] = append(w.notes[s.Slot], noteRecord{Noted{s.Row, s.Count}, sum(w.blocks[first : first+s.Count])})
		}
	}
}

func (w *written) flush() {
	w.flushed = len(w.blocks)
	for slot := range w.g.Drives {
		w.lasting[slot], w.lastingNotes[slot] = len(w.data[slot]), len(w.notes[slot])
	}
}

func sum(l []int) int {
	s := 0
	for _, x := range l {
		s ^= x
	}
	return s
}

// check holds a view of what is kept against P12.3. It adds to seen how often each source served.
func (w *written) check(t *testing.T, lengths, keptNotes []int, missing int, seen *[4]int) {
	t.Helper()
	v := View{Lengths: slices.Clone(lengths), Missing: missing}
	var kept []noteRecord
	for slot, n := range keptNotes {
		if slot == missing {
			v.Lengths[slot] = 0
			continue
		}
		kept = append(kept, w.notes[slot][:n]...)
	}
	for _, n := range kept {
		v.Notes = append(v.Notes, n.Noted)
	}
	length := Length(w.g, w.zone, v)
	if length < w.flushed || length > len(w.blocks) {
		t.Fatalf("%+v: Length is %d, flushed %d, written %d", v, length, w.flushed, len(w.blocks))
	}
	for block := range length {
		kind, note := Source(w.g, w.zone, v, block)
		seen[kind]++
		if got := w.read(v, kept, block, kind, note); got != w.blocks[block] {
			t.Fatalf("%+v: block %d is %x by source %d, %d, want %x", v, block, got, kind, note, w.blocks[block])
		}
	}
	if kind, _ := Source(w.g, w.zone, v, length); kind == None {
		seen[kind]++
	}
}

// read returns what a source yields; -1 if it is not there.
func (w *written) read(v View, kept []noteRecord, block, kind, note int) int {
	row, slot, _ := geom.Place(w.g, w.zone, block)
	has := func(s int) bool { return s != v.Missing && v.Lengths[s] > row }
	switch {
	case kind == Direct && has(slot):
		return w.data[slot][row]
	case kind == Row:
		x := 0
		for s := range w.g.Drives {
			if s == slot {
				continue
			}
			if !has(s) {
				return -1
			}
			x ^= w.data[s][row]
		}
		return x
	case kind == Note && kept[note].Row == row:
		x := kept[note].parity
		first := block - block%(w.g.Drives-1)
		for b := first; b < first+kept[note].Count; b++ {
			_, s, _ := geom.Place(w.g, w.zone, b)
			if b == block {
				continue
			}
			if !has(s) {
				return -1
			}
			x ^= w.data[s][row]
		}
		return x
	}
	return -1
}

// eachFailure checks all that can be kept, with each slot missing and with none.
func (w *written) eachFailure(t *testing.T, seen *[4]int) {
	t.Helper()
	counts := make([]int, 2*w.g.Drives)
	var choose func(i int)
	choose = func(i int) {
		if i == len(counts) {
			for missing := -1; missing < w.g.Drives; missing++ {
				w.check(t, counts[:w.g.Drives], counts[w.g.Drives:], missing, seen)
			}
			return
		}
		slot, least, greatest := i, 0, 0
		if i < w.g.Drives {
			least, greatest = w.lasting[slot], len(w.data[slot])
		} else {
			slot -= w.g.Drives
			least, greatest = w.lastingNotes[slot], len(w.notes[slot])
		}
		for counts[i] = least; counts[i] <= greatest; counts[i]++ {
			choose(i + 1)
		}
	}
	choose(0)
}

// allSeen expects that each source served at least once: otherwise a test shows less than it seems to.
func allSeen(t *testing.T, seen [4]int) {
	t.Helper()
	for kind, n := range seen {
		if n == 0 {
			t.Errorf("source %d never served", kind)
		}
	}
}

// P12.3: every way to write up to six blocks on three drives, with a flush after each of the writes or none, and all that
// each drive can keep.
func TestEachFailure(t *testing.T) {
	var seen [4]int
	for zone := range 2 {
		for total := 1; total <= 6; total++ {
			for ends := range 1 << (total - 1) { // a bit for each block but the last: a write ends there
				for flushed := 0; flushed <= total; flushed++ {
					w := newWritten(least, zone)
					n := 0
					for block := range total {
						n++
						if block == total-1 || ends>>block&1 == 1 {
							w.write(n)
							n = 0
						}
						if block+1 == flushed && n == 0 {
							w.flush()
						}
					}
					w.eachFailure(t, &seen)
				}
			}
		}
	}
	allSeen(t, seen)
}

// P12.3: the same for a row of three blocks, each of which was written alone.
func TestEachFailureFourDrives(t *testing.T) {
	g := api.Geometry{Drives: 4, Zones: 6, Blocks: 4, Open: 1, Active: 1}
	var seen [4]int
	for zone := range 3 {
		for total := 1; total <= 5; total++ {
			for flushed := range total + 1 {
				w := newWritten(g, zone)
				for block := range total {
					w.write(1)
					if block+1 == flushed {
						w.flush()
					}
				}
				w.eachFailure(t, &seen)
			}
		}
	}
	allSeen(t, seen)
}

// P12.3: longer zones on more drives, with writes and flushes in any order.
func TestManyFailures(t *testing.T) {
	d := draws(7)
	var seen [4]int
	for range 1500 {
		g := api.Geometry{Drives: d.from(3, 16), Zones: d.from(5, 8), Blocks: d.from(4, 12), Open: 1, Active: 2}
		w := newWritten(g, d.next(geom.Zones(g)))
		for range d.next(12) {
			n := d.next(2 * g.Drives)
			if d.next(2) == 0 {
				n = d.next(3)
			}
			w.write(min(n, geom.Capacity(g)-len(w.blocks)))
			if d.next(4) == 0 {
				w.flush()
			}
		}
		lengths, keptNotes := make([]int, g.Drives), make([]int, g.Drives)
		for range 8 {
			for slot := range g.Drives {
				lengths[slot] = d.from(w.lasting[slot], len(w.data[slot]))
				keptNotes[slot] = d.from(w.lastingNotes[slot], len(w.notes[slot]))
			}
			w.check(t, lengths, keptNotes, d.from(-1, g.Drives-1), &seen)
		}
	}
	allSeen(t, seen)
}
