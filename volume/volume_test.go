package volume

import (
	"math"
	"slices"
	"strconv"
	"strings"
	"testing"

	"corbel/api"
	"corbel/array"
	"corbel/geom"
	"corbel/rig"
	"corbel/zone"
)

// whole is the geometry of the document's examples: a volume of 74 blocks in three zones of 52.
var whole = api.Geometry{Drives: 3, Zones: 6, Blocks: 26, Open: 2, Active: 6}

// wild are numbers that are no blocks.
var wild = []int{-1, -2, math.MinInt, math.MinInt + 1, 1 << 20, 1 << 32, 1 << 58, 1 << 62, math.MaxInt - 1, math.MaxInt}

// size is the number of blocks of a volume, by layer 21's words.
func size(g api.Geometry) int {
	n := 0
	for n+1+(n+1+api.MaxEntry-1)/api.MaxEntry <= (g.Drives-1)*g.Blocks-8 {
		n++
	}
	return n * (g.Zones - api.MetaZones - 2)
}

func wantRead(t *testing.T, v *Volume, block int, want string) {
	t.Helper()
	if text, e := v.Read(block, len(want)/api.Block); e != api.OK || text != want {
		t.Fatalf("Read of %d blocks from %d on: %d; the text is right: %v", len(want)/api.Block, block, e, text == want)
	}
}

func wantClean(t *testing.T, v *Volume, want bool, wantE api.Errno) {
	t.Helper()
	if got, e := v.Clean(); got != want || e != wantE {
		t.Fatalf("Clean: %v, %d, want %v, %d", got, e, want, wantE)
	}
}

// P22.1, P22.2, P22.3: calls on a nil volume; ErrArg comes first.
func TestNil(t *testing.T) {
	var v *Volume
	if v.Size() != 0 {
		t.Errorf("Size: %d", v.Size())
	}
	for _, n := range append([]int{0, 1}, wild...) {
		if text, e := v.Read(n, n); text != "" || e != api.ErrArg {
			t.Errorf("Read: %d", e)
		}
		if e := v.Trim(n, n); e != api.ErrArg {
			t.Errorf("Trim: %d", e)
		}
		for _, data := range []string{"", "x", zeros} {
			if e := v.Write(n, data); e != api.ErrArg {
				t.Errorf("Write: %d", e)
			}
		}
	}
	if e := v.Flush(); e != api.ErrArg {
		t.Errorf("Flush: %d", e)
	}
	wantClean(t, v, false, api.ErrArg)
	if done, e := v.Rebuild(); done || e != api.ErrArg {
		t.Errorf("Rebuild: %v, %d", done, e)
	}
	if s := v.Status(); s != (array.Status{Missing: -1, Rebuilding: -1}) {
		t.Errorf("Status: %+v", s)
	}
}

// P22.1: Size.
func TestSize(t *testing.T) {
	greatest := api.Geometry{Drives: 16, Zones: 64, Blocks: 256, Open: 64, Active: 64}
	for _, g := range append([]api.Geometry{whole, greatest}, geometries...) {
		if v := open(t, formatted(t, g), g); v.Size() != size(g) {
			t.Errorf("%+v: %d, want %d", g, v.Size(), size(g))
		}
	}
	if n := size(whole); n != 74 {
		t.Errorf("the document's volume has %d blocks", n)
	}
}

// P22.1: the errors of Format and Open are those of layer 17, whatever there is.
func TestErrorsOfTheArray(t *testing.T) {
	kill := func(drives ...int) func(r *rig.Rig) {
		return func(r *rig.Rig) {
			for _, d := range drives {
				r.Kill(d)
			}
		}
	}
	forget := func(drives ...int) func(r *rig.Rig) {
		return func(r *rig.Rig) {
			for _, d := range drives {
				for z := range api.MetaZones {
					r.Do(d, zone.Command{Kind: zone.Reset, Zone: z}, "")
				}
			}
		}
	}
	off := func(r *rig.Rig) { r.Cut(1); r.Flush(0) }
	other := whole
	other.Blocks++
	for name, c := range map[string]struct {
		spoil        func(r *rig.Rig)
		g            api.Geometry
		format, open api.Errno
	}{
		"nothing":           {func(r *rig.Rig) {}, whole, api.OK, api.OK},
		"no geometry":       {func(r *rig.Rig) {}, api.Geometry{}, api.ErrArg, api.ErrArg},
		"other blocks":      {func(r *rig.Rig) {}, other, api.ErrArg, api.ErrArg},
		"other, and off":    {off, other, api.ErrArg, api.ErrArg},
		"power off":         {off, whole, api.ErrPower, api.ErrPower},
		"no logs":           {forget(0, 1, 2, 3), whole, api.OK, api.ErrNone},
		"one without a log": {forget(1), whole, api.OK, api.ErrCorrupt},
		"one dead":          {kill(1), whole, api.ErrDead, api.OK},
		"the spare dead":    {kill(3), whole, api.OK, api.OK},
		"two dead":          {kill(0, 2), whole, api.ErrDead, api.ErrFailed},
		"all dead":          {kill(0, 1, 2, 3), whole, api.ErrDead, api.ErrNone},
	} {
		r := formatted(t, whole)
		c.spoil(r)
		if v, e := Open(r, c.g); e != c.open || (v != nil) != (e == api.OK) {
			t.Errorf("%s: Open: %d, want %d", name, e, c.open)
		}
		if e := Format(r, c.g); e != c.format {
			t.Errorf("%s: Format: %d, want %d", name, e, c.format)
		}
	}
	if v, e := Open(nil, whole); v != nil || e != api.ErrArg {
		t.Errorf("Open without a rig: %d", e)
	}
	if e := Format(nil, whole); e != api.ErrArg {
		t.Errorf("Format without a rig: %d", e)
	}
	if v, e := Open(newRig(t, whole), whole); v != nil || e != api.ErrNone {
		t.Errorf("Open of what was never formatted: %d", e)
	}
}

// P22.1: after Format all blocks are 00, whatever there was.
func TestFormat(t *testing.T) {
	for _, g := range geometries {
		x := newRun(t, g, 1)
		x.read(0, len(x.flat))
		x.write(0, len(x.flat))
		x.write(0, len(x.flat)/2)
		x.flush()
		if e := Format(x.r, g); e != api.OK {
			t.Fatalf("Format: %d", e)
		}
		wantRead(t, open(t, x.r, g), 0, strings.Repeat(zeros, len(x.flat)))
		x.r.Crash()
		wantRead(t, open(t, x.r, g), 0, strings.Repeat(zeros, len(x.flat)))
	}
}

// P22.2: every range about the edges of the volume, in every call, and data that is no blocks.
func TestRanges(t *testing.T) {
	x := newRun(t, whole, 1)
	x.write(0, 74)
	edges := []int{-2, -1, 0, 1, 2, 5, 6, 7, 36, 37, 38, 72, 73, 74, 75, 76}
	for _, block := range append(edges, wild...) {
		for _, n := range append(edges, wild...) {
			x.read(block, n)
			if n <= 76 {
				x.write(block, max(n, 0))
			}
			if !x.within(block, n) { // the model has a text for each block
				if e := x.v.Trim(block, n); e != api.ErrRange {
					t.Fatalf("Trim of %d blocks from %d on: %d", n, block, e)
				}
			} else {
				x.trim(block, n)
			}
		}
		for _, n := range []int{1, 63, 65, 127, 129, 74*64 - 1, 75*64 + 1} {
			if e := x.v.Write(block, strings.Repeat("x", n)); e != api.ErrArg {
				t.Fatalf("Write of %d bytes to block %d: %d", n, block, e)
			}
		}
	}
	x.read(0, 74)
	x.state()
}

// The document's examples 7 to 10, and the chapter's.
func TestExamples(t *testing.T) {
	a, b := strings.Repeat("a", api.Block), strings.Repeat("b", api.Block)
	for _, keep := range []int{0, all} {
		r := formatted(t, whole)
		v := open(t, r, whole)
		v.Write(5, a)
		v.Flush()
		v.Write(5, b)
		r.Crash(keep)
		v = open(t, r, whole)
		want := a
		if keep == all {
			want = b
		}
		wantRead(t, v, 5, want)
		if e := v.Write(74, a); e != api.ErrRange {
			t.Errorf("Write to block 74: %d", e)
		}
		if _, e := v.Read(74, 1); e != api.ErrRange {
			t.Errorf("Read of block 74: %d", e)
		}
		if e := v.Write(0, a[:32]); e != api.ErrArg {
			t.Errorf("Write of half a block: %d", e)
		}
	}
	found := map[string]bool{}
	for keep := range 40 {
		r := formatted(t, whole)
		v := open(t, r, whole)
		v.Write(4, a)
		v.Flush()
		v.Write(5, a)
		v.Write(6, b)
		r.Crash(keep)
		text, _ := open(t, r, whole).Read(4, 3)
		found[text] = true
	}
	for _, want := range []string{a + zeros + zeros, a + a + zeros, a + a + b} {
		if !found[want] {
			t.Errorf("never found: %q", want)
		}
	}
	if len(found) != 3 {
		t.Errorf("%d different contents were found", len(found))
	}
}

// P22.2: whatever is written, there is enough space, also if each power failure leaves a group that is not complete.
func TestSpace(t *testing.T) {
	for i, g := range geometries {
		for _, cuts := range []bool{false, true} {
			t.Run(strconv.Itoa(i), func(t *testing.T) {
				t.Parallel()
				x := newRun(t, g, int64(i))
				x.cuts = cuts
				for round := range 4 {
					order := x.random.Perm(len(x.flat))
					if round == 1 {
						slices.Sort(order)
					}
					x.writeAll(order, 1+round)
				}
			})
		}
	}
}

// writeAll writes so many blocks, or less, from each block on.
func (x *run) writeAll(order []int, most int) {
	x.t.Helper()
	for _, block := range order {
		x.write(block, min(1+x.random.Intn(most), len(x.flat)-block))
		if x.cuts && x.random.Intn(3) == 0 {
			x.r.Cut(1+x.random.Intn(20), all, all, all, 0, 1)
		}
		if x.r.Off() {
			x.recover()
		}
	}
	x.trim(order[0], 1)
	x.r.On()
	x.reopen()
	x.read(0, len(x.flat))
}

// P22.2: a Write or a Trim of all blocks at once, again and again, yields what single ones do.
func TestAllAtOnce(t *testing.T) {
	for _, g := range geometries {
		x := newRun(t, g, 1)
		for range 3 {
			x.write(0, len(x.flat))
			x.read(0, len(x.flat))
			x.trim(0, len(x.flat))
			x.read(0, len(x.flat))
			x.trim(0, len(x.flat))
			x.state()
		}
		x.flush()
		x.r.Crash(0)
		x.reopen()
	}
}

// P22.2: Read, Size and Status send no modifying command, also while a drive is missing or being rebuilt.
func TestReadModifiesNothing(t *testing.T) {
	x := newRun(t, whole, 1)
	look := func() {
		t.Helper()
		count := x.r.Count()
		x.r.Cut(1)
		x.read(0, 74)
		x.read(70, 3)
		x.v.Size()
		x.v.Status()
		if x.r.Off() || x.r.Count() != count {
			t.Fatal("a command that modifies")
		}
		x.r.On()
	}
	look()
	x.write(0, 70)
	x.write(3, 20)
	x.trim(7, 2)
	look()
	x.r.Kill(2)
	look()
	for range whole.Zones - 1 {
		x.v.Rebuild()
		look()
	}
	x.r.Kill(0)
	look()
}

// calls are all those that can return ErrPower, with what they return beside it.
func calls(v *Volume) map[string]func() (bool, api.Errno) {
	return map[string]func() (bool, api.Errno){
		"Write":   func() (bool, api.Errno) { return false, v.Write(1, content(1)) },
		"Trim":    func() (bool, api.Errno) { return false, v.Trim(1, 1) },
		"Flush":   func() (bool, api.Errno) { return false, v.Flush() },
		"Clean":   func() (bool, api.Errno) { return v.Clean() },
		"Rebuild": func() (bool, api.Errno) { return v.Rebuild() },
		"Read": func() (bool, api.Errno) {
			text, e := v.Read(1, 1)
			return text != "", e
		},
		"ReadZeros": func() (bool, api.Errno) {
			text, e := v.Read(73, 1)
			return text != "", e
		},
	}
}

// P22.2, P22.3: after one call has returned ErrPower all others do, also after the power is on again, until the volume is
// opened again; what is no range, and what is no data, comes first.
func TestErrPower(t *testing.T) {
	for name := range calls(nil) {
		if strings.HasPrefix(name, "Read") { // the power does not fail in it
			continue
		}
		for other := range calls(nil) {
			for _, isOn := range []bool{false, true} {
				x := newRun(t, whole, 1)
				x.write(0, 70)
				x.write(0, 70)
				x.flush()
				x.r.Cut(1)
				if done, e := calls(x.v)[name](); done || e != api.ErrPower {
					t.Fatalf("%s at the cut: %v, %d", name, done, e)
				}
				if isOn {
					x.r.On()
				}
				if done, e := calls(x.v)[other](); done || e != api.ErrPower {
					t.Fatalf("%s after %s, on: %v: %v, %d", other, name, isOn, done, e)
				}
				x.wantLost()
				x.r.On()
				x.wantLost()
				x.steps = []step{{1, content(1)}, {1, zeros}} // one of them may have been in progress
				x.reopen()
				x.read(0, 74)
			}
		}
	}
}

// wantLost checks calls after one that has returned ErrPower.
func (x *run) wantLost() {
	x.t.Helper()
	if text, e := x.v.Read(0, 74); text != "" || e != api.ErrPower {
		x.t.Fatalf("Read: %d", e)
	}
	if text, e := x.v.Read(73, 1); text != "" || e != api.ErrPower {
		x.t.Fatalf("Read of a block that was not written: %d", e)
	}
	if _, e := x.v.Read(74, 1); e != api.ErrRange {
		x.t.Fatalf("Read: %d", e)
	}
	if e := x.v.Trim(1, 0); e != api.ErrRange {
		x.t.Fatalf("Trim: %d", e)
	}
	if e := x.v.Write(74, "x"); e != api.ErrArg {
		x.t.Fatalf("Write: %d", e)
	}
	if e := x.v.Write(74, zeros); e != api.ErrRange {
		x.t.Fatalf("Write: %d", e)
	}
	if n := x.v.Size(); n != 74 {
		x.t.Fatalf("Size: %d", n)
	}
}

// P22.2: a call that finds the power off, although no call of the volume has made it fail, is the last that is of use, too.
func TestErrPowerElsewhere(t *testing.T) {
	for name := range calls(nil) {
		x := newRun(t, whole, 1)
		x.write(0, 60)
		x.r.Cut(1)
		if _, e := Open(x.r, whole); e != api.ErrPower {
			t.Fatalf("Open: %d", e)
		}
		if done, e := calls(x.v)[name](); done || e != api.ErrPower {
			t.Fatalf("%s: %v, %d", name, done, e)
		}
		x.r.On()
		for other, call := range calls(x.v) {
			if done, e := call(); done || e != api.ErrPower {
				t.Fatalf("%s after %s: %v, %d", other, name, done, e)
			}
		}
		x.reopen()
	}
}

// P22.2, and P6 of the whole: if two drives have died, a result is what it would have been, or ErrFailed; after one ErrFailed
// all results are.
func TestErrFailed(t *testing.T) {
	for first := range 3 {
		for second := range 3 {
			for name := range calls(nil) {
				if first == second {
					continue
				}
				x := newRun(t, whole, 1)
				x.write(0, 70)
				x.write(0, 30)
				x.r.Kill(first)
				x.read(0, 74)
				x.r.Kill(second)
				for block := range 74 {
					if text, e := x.v.Read(block, 1); e == api.OK && text != x.flat[block] || e != api.OK && e != api.ErrFailed {
						t.Fatalf("Read of block %d: %d", block, e)
					}
				}
				if done, e := calls(x.v)[name](); done || e != api.ErrFailed {
					t.Fatalf("%s: %v, %d", name, done, e)
				}
				if !x.v.Status().Failed {
					t.Fatalf("Status: %+v", x.v.Status())
				}
				if _, e := x.v.Read(74, 1); e != api.ErrRange {
					t.Fatalf("Read of block 74: %d", e)
				}
				for other, call := range calls(x.v) {
					if done, e := call(); done || e != api.ErrFailed {
						t.Fatalf("%s after %s: %v, %d", other, name, done, e)
					}
				}
				x.r.Cut(1)
				x.r.Flush(3)
				if _, e := x.v.Read(1, 1); e != api.ErrPower {
					t.Fatalf("Read without power: %d", e)
				}
			}
		}
	}
}

// P22.3: Clean, where which zones are written is plain.
func TestClean(t *testing.T) {
	x := newRun(t, whole, 1)
	x.clean()
	wantClean(t, x.v, false, api.OK)
	x.write(0, 10)
	wantClean(t, x.v, false, api.OK)
	x.flush()
	x.reopen()
	wantClean(t, x.v, false, api.OK)
	x.write(0, 60) // zone 0 has no room for all of that
	for range 20 {
		x.clean()
		x.read(0, 74)
		x.state()
	}
	x.trim(0, 74)
	for range 20 {
		x.clean()
		x.read(0, 74)
		x.state()
	}
	x.r.Crash(0)
	x.reopen()
}

// P22.3: zones of which nothing is live become Empty by Clean, until no zone but the current one has blocks.
func TestCleanAll(t *testing.T) {
	g := geometries[7]
	x := newRun(t, g, 1)
	for range len(x.flat) / 10 {
		x.write(0, 10)
	}
	n := x.closed()
	if n < 2 {
		t.Fatalf("%d zones to be cleaned", n)
	}
	for range n {
		wantClean(t, x.v, true, api.OK)
		x.read(0, len(x.flat))
		x.state()
	}
	wantClean(t, x.v, false, api.OK)
	x.flush()
	x.r.Crash(0)
	x.reopen()
	wantRead(t, x.v, 10, strings.Repeat(zeros, len(x.flat)-10))
}

// P22.3: a zone whose last block was written is no longer written.
func TestCleanFull(t *testing.T) {
	x := newRun(t, whole, 1)
	for range 7 {
		x.write(0, 6)
	}
	x.trim(10, 6)
	wantClean(t, x.v, false, api.OK)
	x.write(20, 1) // with that 52 blocks
	if now, _ := x.v.array.Zone(0); now.State != zone.Full {
		t.Fatalf("zone 0: %+v", now)
	}
	wantClean(t, x.v, true, api.OK)
	x.read(0, 74)
	x.state()
}

// P22.3: Flush makes durable what was written to any zone, and Rebuild and Status are those of the array.
func TestRebuild(t *testing.T) {
	for dead := range 3 {
		x := newRun(t, whole, 1)
		x.write(0, 74)
		x.write(0, 40)
		x.trim(50, 3)
		if s := x.v.Status(); s != (array.Status{Missing: -1, Rebuilding: -1}) {
			t.Fatalf("Status: %+v", s)
		}
		x.kill(dead)
		x.flush()
		if s := x.v.Status(); s != (array.Status{Missing: dead, Rebuilding: -1}) {
			t.Fatalf("Status: %+v", s)
		}
		for n := 1; n <= whole.Zones-1; n++ {
			done, e := x.v.Rebuild()
			if done != (n == whole.Zones-1) || e != api.OK {
				t.Fatalf("Rebuild, step %d: %v, %d", n, done, e)
			}
			if s := x.v.Status(); !done && s != (array.Status{Missing: -1, Rebuilding: dead}) {
				t.Fatalf("Status: %+v", s)
			}
			x.read(0, 74)
			x.write(n*5, 7)
			x.clean()
		}
		x.flush()
		x.dead = (dead + 1) % 3
		x.r.Kill(x.dead)
		x.read(0, 74)
		x.r.Crash(0)
		x.reopen()
		x.read(0, 74)
		if done, e := x.v.Rebuild(); done || e != api.ErrNone {
			t.Fatalf("Rebuild without a spare drive: %v, %d", done, e)
		}
	}
}

// The result of a call depends only on the calls before it: two volumes with the same history send the same commands.
func TestSameCalls(t *testing.T) {
	for seed := range int64(10) {
		var counts []int
		var stored []string
		for range 2 {
			x := newRun(t, geometries[seed%8], seed)
			x.cuts = true
			for range 150 {
				x.step()
			}
			counts = append(counts, x.r.Count())
			text := ""
			for z := range geom.Zones(x.g) {
				now, _ := x.v.array.Zone(z)
				s, _, _ := x.v.array.Do(zone.Command{Kind: zone.Read, Zone: z, N: now.Length}, "")
				text += s
			}
			stored = append(stored, text)
		}
		if counts[0] != counts[1] || stored[0] != stored[1] {
			t.Errorf("seed %d: %d commands, and %d", seed, counts[0], counts[1])
		}
	}
}
