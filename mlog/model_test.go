package mlog

import (
	"math/rand"
	"slices"
	"testing"

	"corbel/api"
	"corbel/record"
	"corbel/rig"
)

// model is what P9.4 says of a log: the records with which it was begun last, and those appended since, of which the first ones were flushed.
type model struct {
	begun    []record.Record
	appended []record.Record
	flushed  int
	pending  []record.Record // those of a Roll that was interrupted
	rolling  bool
	gen      int
}

// settle takes over what Open found after a loss of power, if it may be that.
func (m *model) settle(l []record.Record, gen int) bool {
	switch {
	case m.rolling && gen == m.gen+1 && slices.Equal(l, m.pending):
		m.begun, m.appended = l, nil
	case gen == m.gen && m.isPrefix(l):
		m.appended = l[len(m.begun):]
	default:
		return false
	}
	m.gen, m.flushed, m.pending, m.rolling = gen, len(m.appended), nil, false
	return true
}

func (m *model) isPrefix(l []record.Record) bool {
	all := slices.Concat(m.begun, m.appended)
	return len(l) >= len(m.begun)+m.flushed && len(l) <= len(all) && slices.Equal(l, all[:len(l)])
}

// run is a log with the model of it.
type run struct {
	t      *testing.T
	random *rand.Rand
	r      *rig.Rig
	m      model
	l      *Log
	seq    int
}

// P9.4: long mixtures of all calls, with losses of power at any command, of which anything is kept.
func TestModel(t *testing.T) {
	for seed := range int64(400) {
		x := &run{t: t, random: rand.New(rand.NewSource(seed)), r: newRig(t)}
		x.m = model{begun: x.some(3), gen: 1}
		x.l = format(t, x.r, x.m.begun)
		for range 150 {
			x.step()
			if t.Failed() {
				t.Fatalf("seed %d", seed)
			}
		}
	}
}

func (x *run) some(most int) []record.Record {
	var l []record.Record
	for range x.random.Intn(most + 1) {
		l = append(l, x.one())
	}
	return l
}

func (x *run) one() record.Record {
	x.seq++
	if x.random.Intn(2) == 0 {
		return parity(x.seq)
	}
	return maps(x.seq, 1)[0]
}

func (x *run) keep() []int {
	l := make([]int, x.random.Intn(4))
	for i := range l {
		l[i] = x.random.Intn(30) - 9
	}
	return l
}

func (x *run) step() {
	switch x.random.Intn(12) {
	case 0:
		x.r.Crash(x.keep()...)
		x.reopen()
	case 1:
		x.r.Cut(1+x.random.Intn(4), x.keep()...)
	case 2:
		x.roll()
	case 3, 4:
		if x.r.Flush(log) == api.OK {
			x.m.flushed = len(x.m.appended)
		}
	default:
		x.append()
	}
	if x.r.Off() {
		x.r.On()
		x.reopen()
	}
}

func (x *run) append() {
	one := x.one()
	left, blocks := x.l.Left(), record.Blocks(one.Kind)
	e := x.l.Append(one)
	switch {
	case e == api.OK && left >= blocks:
		x.m.appended = append(x.m.appended, one)
		left -= blocks
	case e == api.ErrFull && left < blocks:
		x.roll()
		return
	case e == api.ErrPower && x.r.Off():
	default:
		x.t.Errorf("Append of %d blocks with %d left: %d", blocks, left, e)
	}
	at(x.t, x.l, (x.m.gen-1)%2, x.m.gen, left)
}

func (x *run) roll() {
	left := x.l.Left()
	l := x.some(5)
	switch e := x.l.Roll(l); {
	case e == api.OK:
		x.m = model{begun: l, gen: x.m.gen + 1}
		left = 12 - len(framed(x.t, 1, l))/api.Block
	case e == api.ErrPower && x.r.Off():
		x.m.pending, x.m.rolling = l, true
	default:
		x.t.Errorf("Roll: %d", e)
	}
	at(x.t, x.l, (x.m.gen-1)%2, x.m.gen, left)
}

func (x *run) reopen() {
	m, l, e := Open(x.r, log)
	if e != api.OK {
		x.t.Fatalf("Open: %d", e)
	}
	z, gen := m.Where()
	if !x.m.settle(l, gen) {
		x.t.Fatalf("Open found %+v of generation %d, where %+v may be", l, gen, x.m)
	}
	used := len(framed(x.t, gen, l)) / api.Block
	left := 12 - used
	if now, _ := x.r.Zone(log, z); now.Length > used {
		left = 0
	}
	x.l = m
	at(x.t, x.l, (gen-1)%2, gen, left)
}

// P9.4: one Append and one Roll after the other, with a loss of power at each of their commands, and each number of blocks that may remain.
func TestEveryCut(t *testing.T) {
	for _, flush := range []bool{false, true} {
		for n := 1; n <= 12; n++ {
			for kept := range 14 {
				cutAt(t, n, kept, flush)
				if t.Failed() {
					t.Fatalf("cut at %d, %d kept, flush %v", n, kept, flush)
				}
			}
		}
	}
}

func cutAt(t *testing.T, n, kept int, flush bool) {
	x := &run{t: t, random: rand.New(rand.NewSource(1)), r: newRig(t)}
	x.m = model{begun: maps(1, 2), gen: 1}
	x.l = format(t, x.r, x.m.begun)
	x.r.Cut(n, kept)
	for i := 0; i < 20 && !x.r.Off(); i++ {
		switch {
		case i%5 == 4:
			x.roll()
		case flush && i%5 == 2:
			if x.r.Flush(log) == api.OK {
				x.m.flushed = len(x.m.appended)
			}
		default:
			x.append()
		}
	}
	if !x.r.Off() {
		t.Fatal("the power did not fail")
	}
	x.r.On()
	x.reopen()
	x.roll()
	x.reopen()
}

// P9.4: a Format that was interrupted leaves what it was given, or, as both zones were reset, no log.
func TestFormatInterrupted(t *testing.T) {
	for n := 1; n <= 5; n++ {
		for kept := range 6 {
			r := newRig(t)
			r.Cut(n, kept)
			_, e := Format(r, log, maps(1, 2))
			r.Crash(kept)
			if complete := n == 4 && kept == 4; complete || n == 5 {
				opened(t, r, maps(1, 2)...)
			} else {
				refused(t, r, log, api.ErrNone)
			}
			if (e == api.OK) != (n == 5) {
				t.Errorf("cut at %d: %d", n, e)
			}
		}
	}
}
