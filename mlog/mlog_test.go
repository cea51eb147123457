package mlog

import (
	"math"
	"slices"
	"strings"
	"testing"

	"corbel/api"
	"corbel/record"
	"corbel/rig"
	"corbel/zone"
)

// wild are numbers that are no drive.
var wild = []int{-1, -2, math.MinInt, math.MinInt + 1, 1 << 20, 1 << 32, math.MaxInt - 1, math.MaxInt}

// small has zones of 12 blocks: with Head and Done, ten are left for records.
var small = api.Geometry{Drives: 3, Zones: 5, Blocks: 12, Open: 2, Active: 3}

const log = 1 // the drive that the logs of these tests are on

func newRig(t *testing.T) *rig.Rig {
	t.Helper()
	r, e := rig.New(small, 3)
	if e != api.OK {
		t.Fatalf("New: %d", e)
	}
	return r
}

// maps returns n records of one block each, with Seqs from first on.
func maps(first, n int) []record.Record {
	var l []record.Record
	for i := range n {
		l = append(l, record.Record{Kind: record.Map, Seq: first + i, A: i, B: 9, C: 1 << 39, D: 2})
	}
	return l
}

// parity returns a record of two blocks.
func parity(seq int) record.Record {
	return record.Record{Kind: record.Parity, Seq: seq, A: 1, B: 2, C: 3, D: 4, Body: strings.Repeat("p", api.Block)}
}

func head(gen int) record.Record { return record.Record{Kind: record.Head, C: gen} }
func done(gen int) record.Record { return record.Record{Kind: record.Done, C: gen} }

// join returns the blocks of records.
func join(t *testing.T, l ...record.Record) string {
	t.Helper()
	s := ""
	for _, x := range l {
		b, e := record.Encode(x)
		if e != api.OK {
			t.Fatalf("Encode of %+v: %d", x, e)
		}
		s += b
	}
	return s
}

// framed returns the blocks with which a zone is begun.
func framed(t *testing.T, gen int, l []record.Record) string {
	t.Helper()
	return join(t, head(gen)) + join(t, l...) + join(t, done(gen))
}

// lay appends text to a zone of the log's drive, past the log.
func lay(t *testing.T, r *rig.Rig, z int, text string) {
	t.Helper()
	if text == "" {
		return
	}
	if _, _, e := r.Do(log, zone.Command{Kind: zone.Append, Zone: z, N: len(text) / api.Block}, text); e != api.OK {
		t.Fatalf("Append to zone %d: %d", z, e)
	}
}

// lies examines all blocks of the two zones of the log's drive.
func lies(t *testing.T, r *rig.Rig, want ...string) {
	t.Helper()
	for z, text := range want {
		now, _ := r.Zone(log, z)
		got := ""
		if now.Length > 0 {
			got, _, _ = r.Do(log, zone.Command{Kind: zone.Read, Zone: z, N: now.Length}, "")
		}
		if got != text {
			t.Errorf("zone %d has %d blocks, want %d, or their content differs", z, len(got)/api.Block, len(text)/api.Block)
		}
	}
}

// at examines what a log knows.
func at(t *testing.T, l *Log, zone, gen, left int) {
	t.Helper()
	z, n := l.Where()
	if z != zone || n != gen || l.Left() != left {
		t.Errorf("zone %d, generation %d, %d left, want %d, %d, %d", z, n, l.Left(), zone, gen, left)
	}
}

func format(t *testing.T, r *rig.Rig, l []record.Record) *Log {
	t.Helper()
	m, e := Format(r, log, l)
	if m == nil || e != api.OK {
		t.Fatalf("Format: %v, %d", m, e)
	}
	return m
}

// opened opens the log, which is to have these records.
func opened(t *testing.T, r *rig.Rig, want ...record.Record) *Log {
	t.Helper()
	m, l, e := Open(r, log)
	if m == nil || e != api.OK || !slices.Equal(l, want) {
		t.Fatalf("Open: %v, %+v, %d, want %+v", m, l, e, want)
	}
	return m
}

// refused opens the log, which is to be an error.
func refused(t *testing.T, r *rig.Rig, drive int, want api.Errno) {
	t.Helper()
	if m, l, e := Open(r, drive); m != nil || len(l) != 0 || e != want {
		t.Errorf("Open of drive %d: %v, %+v, %d, want %d", drive, m, l, e, want)
	}
}

func expect(t *testing.T, what string, got, want api.Errno) {
	t.Helper()
	if got != want {
		t.Errorf("%s: %d, want %d", what, got, want)
	}
}

// wrong are records that can't be in a log.
func wrong() []record.Record {
	good := maps(3, 1)[0]
	var l []record.Record
	for _, change := range []func(x *record.Record){
		func(x *record.Record) { x.Kind = 0 },
		func(x *record.Record) { x.Kind = -1 },
		func(x *record.Record) { x.Kind = record.Cursor + 1 },
		func(x *record.Record) { x.Kind = record.Parity },
		func(x *record.Record) { x.Kind = record.Head },
		func(x *record.Record) { x.Kind = record.Done },
		func(x *record.Record) { x.Seq = -1 },
		func(x *record.Record) { x.Seq = api.MaxNumber + 1 },
		func(x *record.Record) { x.A = 65536 },
		func(x *record.Record) { x.B = -1 },
		func(x *record.Record) { x.C = api.MaxNumber + 1 },
		func(x *record.Record) { x.D = math.MaxInt },
		func(x *record.Record) { x.Body = "x" },
		func(x *record.Record) { x.Kind, x.Body = record.Parity, strings.Repeat("x", api.Block+1) },
	} {
		x := good
		change(&x)
		l = append(l, x)
	}
	return l
}

// P9.1, P9.2, P9.3: the document's example.
func TestExample(t *testing.T) {
	l := maps(1, 2)
	for kept := range 3 {
		r := newRig(t)
		expect(t, "Append", format(t, r, l[:1]).Append(l[1]), api.OK)
		r.Crash(kept)
		opened(t, r, l[:1+kept%2]...)
	}
}

// P9.1, P9.2: what Format writes, on its drive alone, and that it is durable.
func TestFormat(t *testing.T) {
	for _, l := range [][]record.Record{nil, {}, maps(1, 1), maps(5, 10), {parity(8)}, append(maps(0, 3), parity(3), record.Record{Kind: record.Member}, record.Record{Kind: record.Cursor, A: 65535})} {
		r := newRig(t)
		m := format(t, r, l)
		want := framed(t, 1, l)
		at(t, m, 0, 1, 12-len(want)/api.Block)
		if r.Count() != 4 {
			t.Errorf("%d commands", r.Count())
		}
		lies(t, r, want, "")
		r.Crash()
		lies(t, r, want, "")
		for _, drive := range []int{0, 2} {
			for z := range small.Zones {
				if now, _ := r.Zone(drive, z); now != (zone.Zone{}) {
					t.Errorf("zone %d of drive %d is %v", z, drive, now)
				}
			}
		}
		at(t, opened(t, r, l...), 0, 1, 12-len(want)/api.Block)
	}
}

// P9.2: nothing of an earlier log remains after Format.
func TestFormatAgain(t *testing.T) {
	for rolls := range 4 {
		r := newRig(t)
		m := format(t, r, maps(1, 5))
		for range rolls {
			expect(t, "Roll", m.Roll(maps(7, 6)), api.OK)
		}
		expect(t, "Append", m.Append(parity(20)), api.OK)
		at(t, format(t, r, maps(30, 2)), 0, 1, 8)
		lies(t, r, framed(t, 1, maps(30, 2)), "")
		opened(t, r, maps(30, 2)...)
	}
}

// P9.1, P9.2: the order of the commands of Format, each of which can be the one at which the power fails.
func TestFormatCommands(t *testing.T) {
	old := join(t, maps(90, 3)...)
	text := framed(t, 1, maps(1, 2))
	for n, want := range [][2]string{{old, old}, {old, ""}, {"", ""}, {text[:3*api.Block], ""}} {
		r := newRig(t)
		lay(t, r, 0, old)
		lay(t, r, 1, old)
		r.Flush(log)
		r.Cut(n+1, 3)
		if m, e := Format(r, log, maps(1, 2)); m != nil || e != api.ErrPower || !r.Off() {
			t.Errorf("cut at %d: %v, %d", n, m, e)
		}
		r.On()
		lies(t, r, want[0], want[1])
	}
}

// P9.2: what is wrong with a Format, before anything is done.
func TestFormatWrong(t *testing.T) {
	if m, e := Format(nil, 0, nil); m != nil || e != api.ErrArg {
		t.Errorf("nil: %v, %d", m, e)
	}
	old := join(t, maps(90, 3)...)
	r := newRig(t)
	lay(t, r, 0, old)
	lay(t, r, 1, old)
	count := r.Count()
	refuse := func(drive int, l []record.Record, want api.Errno) {
		t.Helper()
		if m, e := Format(r, drive, l); m != nil || e != want {
			t.Errorf("Format of drive %d with %d records: %v, %d, want %d", drive, len(l), m, e, want)
		}
		if r.Count() != count {
			t.Errorf("%d commands, want %d", r.Count(), count)
		}
		lies(t, r, old, old)
	}
	for _, x := range wrong() {
		refuse(log, []record.Record{x}, api.ErrArg)
		refuse(log, append(maps(1, 2), x), api.ErrArg)
		refuse(log, append([]record.Record{x}, maps(1, 40)...), api.ErrArg)
		refuse(log, append(maps(1, 40), x), api.ErrArg)
		refuse(7, append(maps(1, 40), x), api.ErrArg)
	}
	refuse(log, maps(1, 11), api.ErrFull)
	refuse(log, maps(1, 12), api.ErrFull)
	refuse(log, maps(1, 5000), api.ErrFull)
	refuse(log, append(maps(1, 9), parity(9)), api.ErrFull)
	refuse(7, maps(1, 11), api.ErrFull)
	for _, n := range append([]int{3, 17}, wild...) {
		refuse(n, nil, api.ErrArg)
	}
	r.Kill(2)
	refuse(2, maps(1, 1), api.ErrDead)
}

// P9.1: the log fits if it has as many blocks as a zone, and not if it has one more.
func TestFit(t *testing.T) {
	l := append(maps(1, 8), parity(9))
	r := newRig(t)
	m := format(t, r, l)
	at(t, m, 0, 1, 0)
	expect(t, "Append", m.Append(maps(1, 1)[0]), api.ErrFull)
	opened(t, r, l...)
	expect(t, "Roll", m.Roll(append(l, maps(1, 1)...)), api.ErrFull)
	at(t, m, 0, 1, 0)
	expect(t, "Roll", m.Roll(l), api.OK)
	at(t, m, 1, 2, 0)
	for _, blocks := range []int{4, 256} {
		g := api.Geometry{Drives: 3, Zones: 5, Blocks: blocks, Open: 1, Active: 1}
		r, _ := rig.New(g, 1)
		if m, e := Format(r, 0, maps(1, blocks-1)); m != nil || e != api.ErrFull {
			t.Errorf("%d records in %d blocks: %d", blocks-1, blocks, e)
		}
		if m, e := Format(r, 0, maps(1, blocks-2)); m == nil || e != api.OK || m.Left() != 0 {
			t.Errorf("%d records in %d blocks: %d", blocks-2, blocks, e)
		}
	}
}

// P9.1, P9.2, P9.3: an error of the rig at the Append of a beginning, after the Reset.
func TestNoActive(t *testing.T) {
	r := newRig(t)
	m := format(t, r, maps(1, 1))
	for z := 2; z < 4; z++ {
		lay(t, r, z, join(t, maps(1, 1)...))
	}
	expect(t, "Roll", m.Roll(maps(5, 1)), api.ErrLimit)
	at(t, m, 0, 1, 9)
	expect(t, "Append", m.Append(parity(2)), api.OK)
	at(t, m, 0, 1, 7)
	lay(t, r, 0, join(t, maps(1, 7)...))
	expect(t, "Append", m.Append(parity(3)), api.ErrFull)
	lay(t, r, 4, join(t, maps(1, 1)...))
	if m, e := Format(r, log, maps(1, 1)); m != nil || e != api.ErrLimit {
		t.Errorf("Format: %v, %d", m, e)
	}
	lies(t, r, "", "")
}

// P9.1, P9.2, P9.3: without power, and of a drive that died.
func TestNoDrive(t *testing.T) {
	for _, want := range []api.Errno{api.ErrPower, api.ErrDead} {
		r := newRig(t)
		m := format(t, r, maps(1, 1))
		if want == api.ErrDead {
			r.Kill(log)
		} else {
			r.Cut(1)
			r.Flush(0)
		}
		expect(t, "Append", m.Append(maps(2, 1)[0]), want)
		expect(t, "Roll", m.Roll(maps(2, 1)), want)
		at(t, m, 0, 1, 9)
		expect(t, "Append", m.Append(wrong()[0]), api.ErrArg)
		expect(t, "Roll", m.Roll(wrong()[:1]), api.ErrArg)
		expect(t, "Roll", m.Roll(maps(1, 11)), api.ErrFull)
		refused(t, r, log, want)
		refused(t, r, 3, api.ErrArg)
		if m, e := Format(r, log, nil); m != nil || e != want {
			t.Errorf("Format: %v, %d", m, e)
		}
	}
}

// P9.2: no such rig, and no such drive.
func TestOpenWrong(t *testing.T) {
	refused(t, nil, 0, api.ErrArg)
	r := newRig(t)
	format(t, r, nil)
	for _, n := range append([]int{3, 17}, wild...) {
		refused(t, nil, n, api.ErrArg)
		refused(t, r, n, api.ErrArg)
	}
	refused(t, r, 0, api.ErrNone)
	refused(t, r, 2, api.ErrNone)
}

// P9.2: an error of a Read, of zone 0 or of zone 1, but none of a zone that has no blocks.
func TestOpenRead(t *testing.T) {
	for _, want := range []api.Errno{api.ErrPower, api.ErrDead} {
		for blocks := range 4 {
			r := newRig(t)
			for z := range 2 {
				if blocks&(1<<z) != 0 {
					lay(t, r, z, framed(t, 1, nil))
				}
			}
			r.Flush(log)
			if want == api.ErrDead {
				r.Kill(log)
			} else {
				r.Cut(1)
				r.Flush(log)
			}
			if blocks == 0 {
				refused(t, r, log, api.ErrNone)
				continue
			}
			refused(t, r, log, want)
		}
	}
}

// P9.2: Open sends no modifying command.
func TestOpenCommands(t *testing.T) {
	r := newRig(t)
	format(t, r, maps(1, 3))
	r.Cut(1)
	for range 3 {
		opened(t, r, maps(1, 3)...)
	}
	if r.Count() != 4 || r.Off() {
		t.Errorf("%d commands", r.Count())
	}
}

// P9.2: which logs of a zone are complete, their generations, their records, and whether they are torn.
func TestComplete(t *testing.T) {
	a, b, p := maps(1, 1)[0], maps(2, 1)[0], parity(3)
	for _, c := range []struct {
		name    string
		lies    []record.Record
		ok      bool
		gen     int
		records []record.Record
	}{
		{name: "nothing"},
		{name: "no Head", lies: []record.Record{a, done(1)}},
		{name: "a Head that is not the first", lies: []record.Record{a, head(1), done(1)}},
		{name: "Done before Head", lies: []record.Record{done(1), head(1)}},
		{name: "no Done", lies: []record.Record{head(1), a, b}},
		{name: "a Head alone", lies: []record.Record{head(0)}},
		{name: "a Done of another generation", lies: []record.Record{head(1), a, done(2)}},
		{name: "the Done of a second Head", lies: []record.Record{head(1), a, head(2), done(2)}},
		{name: "no records", lies: []record.Record{head(5), done(5)}, ok: true, gen: 5},
		{name: "generation 0", lies: []record.Record{head(0), a, done(0)}, ok: true, records: []record.Record{a}},
		{name: "the greatest generation", lies: []record.Record{head(api.MaxNumber), done(api.MaxNumber), a}, ok: true, gen: api.MaxNumber, records: []record.Record{a}},
		{name: "records before and after Done", lies: []record.Record{head(4), b, p, done(4), a, p}, ok: true, gen: 4, records: []record.Record{b, p, a, p}},
		{name: "other Heads and Dones", lies: []record.Record{head(4), done(3), a, head(5), done(5), done(4), head(6), b, done(4)}, ok: true, gen: 4, records: []record.Record{a, b}},
		{name: "Done at the end", lies: []record.Record{head(4), a, b, p, done(9), done(4)}, ok: true, gen: 4, records: []record.Record{a, b, p}},
		{name: "numbers of Head and Done other than C", lies: []record.Record{{Kind: record.Head, Seq: 1, A: 2, B: 3, C: 4, D: 5}, a, {Kind: record.Done, Seq: 9, A: 8, B: 7, C: 4, D: 6}}, ok: true, gen: 4, records: []record.Record{a}},
	} {
		for z := range 2 {
			for _, torn := range []string{"", strings.Repeat("x", api.Block), join(t, p)[:api.Block], strings.Repeat("\x00", api.Block) + join(t, a)} {
				r := newRig(t)
				text := join(t, c.lies...) + torn
				lay(t, r, z, text)
				if !c.ok {
					refused(t, r, log, api.ErrNone)
					continue
				}
				left := 12 - len(text)/api.Block
				if torn != "" {
					left = 0
				}
				at(t, opened(t, r, c.records...), z, c.gen, left)
			}
		}
	}
}

// P9.2: a Done that comes after the first error does not count.
func TestCompleteBehind(t *testing.T) {
	r := newRig(t)
	lay(t, r, 0, join(t, head(1))+strings.Repeat("x", api.Block)+join(t, done(1)))
	refused(t, r, log, api.ErrNone)
}

// P9.2: of two complete logs the one with the greater generation, for equal ones zone 0; the other zone does not matter.
func TestCurrent(t *testing.T) {
	tear := strings.Repeat("x", api.Block)
	l := [2][]record.Record{maps(1, 1), maps(5, 3)}
	for _, c := range []struct {
		gens    [2]int
		current int
	}{
		{[2]int{1, 2}, 1}, {[2]int{2, 1}, 0}, {[2]int{1, 1}, 0}, {[2]int{0, 0}, 0}, {[2]int{0, 9}, 1}, {[2]int{9, 0}, 0},
		{[2]int{api.MaxNumber, api.MaxNumber - 1}, 0}, {[2]int{api.MaxNumber - 1, api.MaxNumber}, 1},
	} {
		for tears := range 4 {
			r := newRig(t)
			left := 0
			for z := range 2 {
				text := framed(t, c.gens[z], l[z])
				if tears&(1<<z) != 0 {
					text += tear
				} else if z == c.current {
					left = 12 - len(text)/api.Block
				}
				lay(t, r, z, text)
			}
			at(t, opened(t, r, l[c.current]...), c.current, c.gens[c.current], left)
		}
	}
	for z := range 2 {
		r := newRig(t)
		lay(t, r, z, framed(t, 1, l[0]))
		lay(t, r, 1-z, join(t, head(2))+join(t, l[1]...))
		at(t, opened(t, r, l[0]...), z, 1, 9)
	}
}

// P9.3: records are appended one after the other, each by one command, until the zone is full.
func TestAppend(t *testing.T) {
	r := newRig(t)
	m := format(t, r, maps(1, 1))
	all := maps(1, 1)
	text := framed(t, 1, all)
	for i, x := range []record.Record{maps(4, 1)[0], parity(5), {Kind: record.Member, A: 1, B: 3}, {Kind: record.Cursor, A: 65535}, parity(6), {Kind: record.Map, Seq: api.MaxNumber, A: 65535, B: 65535, C: api.MaxNumber, D: 65535}} {
		expect(t, "Append", m.Append(x), api.OK)
		all = append(all, x)
		text += join(t, x)
		lies(t, r, text, "")
		at(t, m, 0, 1, 12-len(text)/api.Block)
		at(t, opened(t, r, all...), 0, 1, 12-len(text)/api.Block)
		if r.Count() != 5+i {
			t.Errorf("%d commands after %d", r.Count(), i+1)
		}
	}
	expect(t, "Append of two blocks", m.Append(parity(7)), api.ErrFull)
	at(t, m, 0, 1, 1)
	expect(t, "Append of one block", m.Append(maps(7, 1)[0]), api.OK)
	at(t, m, 0, 1, 0)
	expect(t, "Append", m.Append(maps(8, 1)[0]), api.ErrFull)
	if r.Count() != 11 {
		t.Errorf("%d commands", r.Count())
	}
}

// P9.3: wrong records, also where the zone is full or torn.
func TestAppendWrong(t *testing.T) {
	full := newRig(t)
	format(t, full, maps(1, 10))
	torn := newRig(t)
	format(t, torn, maps(1, 2))
	lay(t, torn, 0, strings.Repeat("x", api.Block))
	free := newRig(t)
	format(t, free, maps(1, 2))
	for _, r := range []*rig.Rig{full, torn, free} {
		m, _, _ := Open(r, log)
		_, gen := m.Where()
		left, count := m.Left(), r.Count()
		for _, x := range wrong() {
			expect(t, "Append", m.Append(x), api.ErrArg)
			expect(t, "Roll", m.Roll(append(maps(1, 40), x)), api.ErrArg)
		}
		expect(t, "Roll", m.Roll(maps(1, 11)), api.ErrFull)
		at(t, m, 0, gen, left)
		if r.Count() != count {
			t.Errorf("%d commands, want %d", r.Count(), count)
		}
	}
}

// P9.3: what is torn takes no records until the next Roll.
func TestTorn(t *testing.T) {
	r := newRig(t)
	format(t, r, maps(1, 2))
	lay(t, r, 0, join(t, parity(1))[:api.Block])
	m := opened(t, r, maps(1, 2)...)
	at(t, m, 0, 1, 0)
	expect(t, "Append", m.Append(maps(3, 1)[0]), api.ErrFull)
	expect(t, "Append", m.Append(parity(3)), api.ErrFull)
	if r.Count() != 5 {
		t.Errorf("%d commands", r.Count())
	}
	expect(t, "Roll", m.Roll(maps(4, 3)), api.OK)
	at(t, m, 1, 2, 7)
	expect(t, "Append", m.Append(parity(7)), api.OK)
	at(t, m, 1, 2, 5)
	opened(t, r, append(maps(4, 3), parity(7))...)
}

// P9.1, P9.3: Roll uses the two zones alternately, with the next generation each time.
func TestRoll(t *testing.T) {
	r := newRig(t)
	m := format(t, r, maps(1, 1))
	old := framed(t, 1, maps(1, 1))
	for i := range 7 {
		l := append(maps(10*i, i), parity(i))
		count := r.Count()
		expect(t, "Roll", m.Roll(l), api.OK)
		if r.Count() != count+3 {
			t.Errorf("%d commands", r.Count()-count)
		}
		text := framed(t, i+2, l)
		at(t, m, (i+1)%2, i+2, 12-len(text)/api.Block)
		want := []string{text, old}
		if i%2 == 0 {
			want = []string{old, text}
		}
		lies(t, r, want...)
		r.Crash()
		lies(t, r, want...)
		m = opened(t, r, l...)
		at(t, m, (i+1)%2, i+2, 12-len(text)/api.Block)
		old = text
	}
}

// P9.1, P9.3: the order of the commands of Roll, each of which can be the one at which the power fails, and what the log knows then.
func TestRollCommands(t *testing.T) {
	first, old := framed(t, 1, maps(1, 1)), framed(t, 2, maps(3, 4))
	text := framed(t, 3, maps(9, 2))
	for n, want := range []string{first, "", text} {
		for kept := range 5 {
			r := newRig(t)
			m := format(t, r, maps(1, 1))
			expect(t, "Roll", m.Roll(maps(3, 4)), api.OK)
			r.Cut(n+1, kept)
			expect(t, "Roll", m.Roll(maps(9, 2)), api.ErrPower)
			at(t, m, 1, 2, 6)
			expect(t, "Append", m.Append(maps(1, 1)[0]), api.ErrPower)
			at(t, m, 1, 2, 6)
			r.On()
			if n == 2 {
				want = text[:kept*api.Block]
			}
			lies(t, r, want, old)
			if want == text {
				at(t, opened(t, r, maps(9, 2)...), 0, 3, 8)
			} else {
				at(t, opened(t, r, maps(3, 4)...), 1, 2, 6)
			}
		}
	}
}

// P9.3: the greatest generation is the last one.
func TestLastGeneration(t *testing.T) {
	r := newRig(t)
	lay(t, r, 1, framed(t, api.MaxNumber-1, maps(1, 1)))
	m := opened(t, r, maps(1, 1)...)
	expect(t, "Roll", m.Roll(maps(2, 2)), api.OK)
	at(t, m, 0, api.MaxNumber, 8)
	for _, m := range []*Log{m, opened(t, r, maps(2, 2)...)} {
		count := r.Count()
		expect(t, "Roll", m.Roll(nil), api.ErrFull)
		expect(t, "Roll", m.Roll(wrong()[:1]), api.ErrFull)
		if r.Count() != count {
			t.Errorf("%d commands", r.Count()-count)
		}
		at(t, m, 0, api.MaxNumber, 8)
	}
	expect(t, "Append", m.Append(parity(4)), api.OK)
	at(t, m, 0, api.MaxNumber, 6)
	opened(t, r, append(maps(2, 2), parity(4))...)
}

// P9.3: what a log knows does not change by a loss of power, nor by an Append that failed.
func TestKnows(t *testing.T) {
	r := newRig(t)
	m := format(t, r, maps(1, 1))
	expect(t, "Append", m.Append(parity(2)), api.OK)
	r.Cut(1)
	expect(t, "Append", m.Append(parity(3)), api.ErrPower)
	at(t, m, 0, 1, 7)
	r.On()
	at(t, m, 0, 1, 7)
	at(t, opened(t, r, maps(1, 1)...), 0, 1, 9)
}

// P9.3: a nil *Log.
func TestNil(t *testing.T) {
	var m *Log
	expect(t, "Append", m.Append(maps(1, 1)[0]), api.ErrArg)
	expect(t, "Append", m.Append(wrong()[0]), api.ErrArg)
	expect(t, "Roll", m.Roll(nil), api.ErrArg)
	expect(t, "Roll", m.Roll(maps(1, 300)), api.ErrArg)
	at(t, m, 0, 0, 0)
}

// P1: a *Log that no call returned.
func TestHandMade(t *testing.T) {
	m := &Log{}
	expect(t, "Append", m.Append(maps(1, 1)[0]), api.ErrFull)
	expect(t, "Roll", m.Roll(nil), api.ErrFull)
	at(t, m, 0, 0, 0)
}

// Lists are neither changed nor retained, and what Open returns is new each time.
func TestOwn(t *testing.T) {
	r := newRig(t)
	l := maps(1, 5)
	given := l[:3]
	m := format(t, r, given)
	expect(t, "Roll", m.Roll(given), api.OK)
	if !slices.Equal(l, maps(1, 5)) {
		t.Errorf("the list is %+v", l)
	}
	clear(l)
	_, a, _ := Open(r, log)
	clear(a)
	_ = append(a[:0], parity(1), parity(2), parity(3), parity(4))
	opened(t, r, maps(1, 3)...)
}
