package mend

import (
	"slices"
	"testing"

	"corbel/api"
	"corbel/geom"
	"corbel/plan"
	"corbel/tail"
)

// written is a zone on its way to the drives: how many blocks of it each of them was given, which notes, and how much of
// both was flushed.
type written struct {
	g            api.Geometry
	zone         int
	count        int // blocks of the zone
	flushed      int
	data         []int
	notes        [][]tail.Noted
	lasting      []int
	lastingNotes []int
}

func newWritten(g api.Geometry, zone int) *written {
	return &written{
		g: g, zone: zone,
		data: make([]int, g.Drives), notes: make([][]tail.Noted, g.Drives),
		lasting: make([]int, g.Drives), lastingNotes: make([]int, g.Drives),
	}
}

// write does the steps of layer 13 for the next n blocks.
func (w *written) write(n int) {
	steps, _ := plan.Write(w.g, w.zone, w.count, n)
	for _, s := range steps {
		if s.Kind == plan.Note {
			w.notes[s.Slot] = append(w.notes[s.Slot], tail.Noted{Row: s.Row, Count: s.Count})
		} else {
			w.data[s.Slot]++
		}
	}
	w.count += n
}

func (w *written) flush() {
	w.flushed = w.count
	for slot := range w.g.Drives {
		w.lasting[slot], w.lastingNotes[slot] = w.data[slot], len(w.notes[slot])
	}
}

// check holds the deed for what is kept against P15.2, and adds it to seen. What the missing slot is said to have makes no
// difference.
func (w *written) check(t *testing.T, lengths, keptNotes []int, missing int, seen *[4]int) {
	t.Helper()
	v := tail.View{Lengths: slices.Clone(lengths), Missing: missing}
	for slot, n := range keptNotes {
		if slot != missing {
			v.Notes = append(v.Notes, w.notes[slot][:n]...)
		}
	}
	told := tail.Length(w.g, w.zone, v)
	deed, e := Decide(w.g, w.zone, told, lengths, missing)
	if e != api.OK {
		t.Fatalf("%+v: %d", v, e)
	}
	seen[deed.Kind]++
	if w.flushed == w.count && deed != (Deed{Kind: Keep}) {
		t.Fatalf("%+v: %+v, though all was flushed", v, deed)
	}
	if deed.Kind == Parity {
		w.checkParity(t, v, told, deed)
	}
	if missing >= 0 {
		v.Lengths[missing] = w.g.Blocks - v.Lengths[missing]
		if other, _ := Decide(w.g, w.zone, told, v.Lengths, missing); other != deed {
			t.Fatalf("%+v: %+v, with another length of the missing slot %+v", v, deed, other)
		}
	}
}

// checkParity expects that the parity is the next block of its slot, that it can be told, and that it is all that lacks.
func (w *written) checkParity(t *testing.T, v tail.View, told int, deed Deed) {
	t.Helper()
	if v.Lengths[deed.Slot] != deed.Row || geom.Parity(w.g, w.zone, deed.Row) != deed.Slot || deed.Slot == v.Missing {
		t.Fatalf("%+v: %+v", v, deed)
	}
	if (deed.Row+1)*(w.g.Drives-1) > told {
		t.Fatalf("%+v: %+v, but %d blocks are told", v, deed, told)
	}
	l := slices.Clone(v.Lengths)
	l[deed.Slot]++
	if after, e := Decide(w.g, w.zone, told, l, v.Missing); e != api.OK || after != (Deed{Kind: Keep}) {
		t.Fatalf("%+v: %+v, and after it %+v, %d", v, deed, after, e)
	}
}

// eachFailure checks all that can be kept, with each slot missing and with none.
func (w *written) eachFailure(t *testing.T, seen *[4]int) {
	t.Helper()
	kept := make([]int, 2*w.g.Drives) // blocks of each slot, then notes
	var choose func(i int)
	choose = func(i int) {
		if i == len(kept) {
			for missing := -1; missing < w.g.Drives; missing++ {
				w.check(t, kept[:w.g.Drives], kept[w.g.Drives:], missing, seen)
			}
			return
		}
		slot := i % w.g.Drives
		from, to := w.lasting[slot], w.data[slot]
		if i >= w.g.Drives {
			from, to = w.lastingNotes[slot], len(w.notes[slot])
		}
		for kept[i] = from; kept[i] <= to; kept[i]++ {
			choose(i + 1)
		}
	}
	choose(0)
}

// allSeen expects that each deed was decided on at least once: otherwise a test shows less than it seems to.
func allSeen(t *testing.T, seen [4]int) {
	t.Helper()
	if slices.Contains(seen[:], 0) {
		t.Errorf("deeds %v", seen)
	}
}

// P15.2: every way to write up to six blocks on three drives, with a flush after each of the writes or none, and all that
// each drive can keep.
func TestEachFailure(t *testing.T) {
	var seen [4]int
	for zone := range 2 {
		for total := 1; total <= 6; total++ {
			for ends := range 1 << (total - 1) { // a bit for each block but the last: a write ends there
				for flushed := 0; flushed <= total; flushed++ {
					w := newWritten(least, zone)
					n := 0
					for block := range total {
						n++
						if block == total-1 || ends>>block&1 == 1 {
							w.write(n)
							n = 0
						}
						if block+1 == flushed && n == 0 {
							w.flush()
						}
					}
					w.eachFailure(t, &seen)
				}
			}
		}
	}
	allSeen(t, seen)
}

// P15.2: long mixtures of writes, flushes and what is kept, on up to 16 drives.
func TestManyFailures(t *testing.T) {
	var seen [4]int
	d := draws(2)
	for range 3000 {
		g := api.Geometry{Drives: d.from(3, 16), Zones: d.from(5, 9), Blocks: d.from(4, 12), Open: 1, Active: 1}
		w := newWritten(g, d.from(0, g.Zones-4))
		for w.count < geom.Capacity(g) && d.from(0, 12) > 0 {
			w.write(d.from(1, min(geom.Capacity(g)-w.count, 2*g.Drives)))
			if d.from(0, 3) == 0 {
				w.flush()
			}
		}
		if d.from(0, 5) == 0 {
			w.flush()
		}
		for range 20 {
			lost := d.from(0, 4)
			lengths, notes := make([]int, g.Drives), make([]int, g.Drives)
			for slot := range g.Drives {
				lengths[slot] = max(w.lasting[slot], w.data[slot]-d.from(0, 1)*d.from(0, lost))
				notes[slot] = max(w.lastingNotes[slot], len(w.notes[slot])-d.from(0, lost))
			}
			w.check(t, lengths, notes, d.from(-1, g.Drives-1), &seen)
		}
	}
	allSeen(t, seen)
}

// P15.2: all but the parity of the last full row is kept, in every zone and after every number of blocks: the deed is Parity.
func TestParityLost(t *testing.T) {
	for _, g := range []api.Geometry{least, small, {Drives: 7, Zones: 12, Blocks: 6, Open: 1, Active: 12}} {
		for zone := range geom.Zones(g) {
			for n := g.Drives - 1; n <= geom.Capacity(g); n++ {
				lengths := plan.Lengths(g, zone, n)
				row := n/(g.Drives-1) - 1
				slot := geom.Parity(g, zone, row)
				lengths[slot] = row
				told := tail.Length(g, zone, tail.View{Lengths: lengths, Missing: -1})
				if told != n {
					t.Fatalf("%+v, zone %d: %d of %d blocks are told", g, zone, told, n)
				}
				expect(t, g, zone, told, lengths, -1, Deed{Kind: Parity, Slot: slot, Row: row})
			}
		}
	}
}
