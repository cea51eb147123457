package array

import (
	"math"
	"slices"
	"strings"
	"testing"

	"corbel/api"
	"corbel/book"
	"corbel/geom"
	"corbel/mlog"
	"corbel/record"
	"corbel/rig"
	"corbel/zone"
)

// wild are numbers that are no zone, no block and no kind.
var wild = []int{-1, -2, math.MinInt, math.MinInt + 1, 1 << 20, 1 << 32, 1 << 58, 1 << 62, math.MaxInt - 1, math.MaxInt}

// whole is the geometry of the document's examples.
var whole = api.Geometry{Drives: 3, Zones: 6, Blocks: 26, Open: 2, Active: 6}

func formatted(t *testing.T, g api.Geometry) *rig.Rig {
	t.Helper()
	r := newRig(t, g)
	if e := Format(r, g); e != api.OK {
		t.Fatalf("Format: %d", e)
	}
	return r
}

func read(z, n int) zone.Command { return zone.Command{Kind: zone.Read, Zone: z, N: n} }

// blocks returns so many blocks, each with a content of its own.
func blocks(n int) string {
	var b strings.Builder
	for i := range n {
		b.WriteString(content(i + 1))
	}
	return b.String()
}

func appendTo(t *testing.T, a *Array, z int, data string) {
	t.Helper()
	if _, _, e := a.Do(zone.Command{Kind: zone.Append, Zone: z, N: len(data) / api.Block}, data); e != api.OK {
		t.Fatalf("Append: %d", e)
	}
}

func wantRead(t *testing.T, a *Array, z int, want string) {
	t.Helper()
	if text, at, e := a.Do(read(z, len(want)/api.Block), ""); e != api.OK || at != 0 || text != want {
		t.Fatalf("Read: %d, %d; the text is right: %v", at, e, text == want)
	}
}

func wantStatus(t *testing.T, a *Array, want Status) {
	t.Helper()
	if got := a.Status(); got != want {
		t.Fatalf("Status: %+v, want %+v", got, want)
	}
}

func wantRebuild(t *testing.T, a *Array, want bool, wantE api.Errno) {
	t.Helper()
	if got, e := a.Rebuild(); got != want || e != wantE {
		t.Fatalf("Rebuild: %v, %d, want %v, %d", got, e, want, wantE)
	}
}

// rebuildAll executes as many steps as suffice.
func rebuildAll(t *testing.T, a *Array, g api.Geometry) {
	t.Helper()
	for range g.Zones - 2 {
		wantRebuild(t, a, false, api.OK)
	}
	wantRebuild(t, a, true, api.OK)
}

// P17.1: Good and Limits.
func TestGood(t *testing.T) {
	for _, c := range []struct {
		g            api.Geometry
		good         bool
		open, active int
	}{
		{whole, true, 2, 3},
		{least, true, 1, 1},
		{api.Geometry{Drives: 3, Zones: 5, Blocks: 19, Open: 1, Active: 4}, false, 0, 0},
		{api.Geometry{Drives: 4, Zones: 5, Blocks: 20, Open: 1, Active: 4}, false, 0, 0},
		{api.Geometry{Drives: 4, Zones: 5, Blocks: 21, Open: 1, Active: 4}, true, 1, 1},
		{api.Geometry{Drives: 3, Zones: 6, Blocks: 22, Open: 1, Active: 4}, false, 0, 0},
		{api.Geometry{Drives: 3, Zones: 6, Blocks: 23, Open: 1, Active: 4}, true, 1, 1},
		{api.Geometry{Drives: 3, Zones: 5, Blocks: 20, Open: 1, Active: 3}, false, 0, 0},
		{api.Geometry{Drives: 3, Zones: 5, Blocks: 20, Open: 3, Active: 3}, false, 0, 0},
		{api.Geometry{Drives: 3, Zones: 5, Blocks: 20, Open: 5, Active: 5}, true, 2, 2},
		{api.Geometry{Drives: 3, Zones: 10, Blocks: 40, Open: 3, Active: 10}, true, 3, 7},
		{api.Geometry{Drives: 3, Zones: 10, Blocks: 40, Open: 8, Active: 8}, true, 5, 5},
		{api.Geometry{Drives: 16, Zones: 64, Blocks: 256, Open: 64, Active: 64}, true, 61, 61},
		{api.Geometry{Drives: 16, Zones: 64, Blocks: 210, Open: 64, Active: 64}, true, 61, 61},
		{api.Geometry{Drives: 16, Zones: 64, Blocks: 209, Open: 64, Active: 64}, false, 0, 0},
		{api.Geometry{Drives: 17, Zones: 64, Blocks: 256, Open: 64, Active: 64}, false, 0, 0},
		{api.Geometry{Drives: 2, Zones: 6, Blocks: 26, Open: 2, Active: 6}, false, 0, 0},
		{api.Geometry{Drives: 3, Zones: 4, Blocks: 26, Open: 2, Active: 4}, false, 0, 0},
		{api.Geometry{Drives: 3, Zones: 6, Blocks: 257, Open: 2, Active: 6}, false, 0, 0},
		{api.Geometry{Drives: 3, Zones: 6, Blocks: 26, Open: 0, Active: 6}, false, 0, 0},
		{api.Geometry{Drives: 3, Zones: 6, Blocks: 26, Open: 2, Active: 7}, false, 0, 0},
		{api.Geometry{}, false, 0, 0},
		{api.Geometry{Drives: math.MaxInt, Zones: math.MaxInt, Blocks: math.MaxInt, Open: math.MaxInt, Active: math.MaxInt}, false, 0, 0},
	} {
		nOpen, nActive := Limits(c.g)
		if Good(c.g) != c.good || nOpen != c.open || nActive != c.active {
			t.Errorf("%+v: %v, %d, %d", c.g, Good(c.g), nOpen, nActive)
		}
	}
}

// unfit returns rigs and geometries for which there can be no array.
func unfit(t *testing.T) map[string]func() (*rig.Rig, api.Geometry) {
	rigOf := func(g api.Geometry, drives int) *rig.Rig {
		r, e := rig.New(g, drives)
		if e != api.OK {
			t.Fatalf("rig.New: %d", e)
		}
		return r
	}
	with := func(change func(g *api.Geometry)) api.Geometry {
		g := whole
		change(&g)
		return g
	}
	tight := with(func(g *api.Geometry) { g.Blocks = 22 })
	idle := with(func(g *api.Geometry) { g.Active = 3 })
	return map[string]func() (*rig.Rig, api.Geometry){
		"nil":             func() (*rig.Rig, api.Geometry) { return nil, whole },
		"too few drives":  func() (*rig.Rig, api.Geometry) { return rigOf(whole, 3), whole },
		"too many drives": func() (*rig.Rig, api.Geometry) { return rigOf(whole, 5), whole },
		"other blocks":    func() (*rig.Rig, api.Geometry) { return rigOf(with(func(g *api.Geometry) { g.Blocks++ }), 4), whole },
		"few blocks":      func() (*rig.Rig, api.Geometry) { return rigOf(tight, 4), tight },
		"few active":      func() (*rig.Rig, api.Geometry) { return rigOf(idle, 4), idle },
		"no geometry":     func() (*rig.Rig, api.Geometry) { return rigOf(whole, 4), api.Geometry{} },
	}
}

// P17.1: ErrArg of Format and Open, before everything else, and without any command.
func TestUnfit(t *testing.T) {
	for name, f := range unfit(t) {
		for _, isOff := range []bool{false, true} {
			r, g := f()
			if r != nil && isOff {
				r.Cut(1)
				r.Flush(0)
			}
			if e := Format(r, g); e != api.ErrArg {
				t.Errorf("%s: Format: %d", name, e)
			}
			if a, e := Open(r, g); a != nil || e != api.ErrArg {
				t.Errorf("%s: Open: %d", name, e)
			}
			if r.Count() != 0 {
				t.Errorf("%s: %d commands", name, r.Count())
			}
		}
	}
}

// P17.1: what Format returns of the rig's errors.
func TestFormatErrors(t *testing.T) {
	for d := range 4 {
		r := newRig(t, whole)
		r.Kill(d)
		want := api.ErrDead
		if d == 3 {
			want = api.OK
		}
		if e := Format(r, whole); e != want {
			t.Errorf("drive %d died: %d", d, e)
		}
	}
	r := newRig(t, whole)
	r.Kill(0)
	r.Cut(1)
	r.Flush(1)
	if e := Format(r, whole); e != api.ErrPower {
		t.Errorf("without power: %d", e)
	}
	fewer := whole
	fewer.Zones, fewer.Active = 5, 5
	r = newRig(t, fewer)
	if e := Format(r, whole); e != api.ErrRange {
		t.Errorf("without the last zone: %d", e)
	}
}

// P17.1: after Format all zones are Empty, whatever there was; after one in which the power failed another one helps.
func TestFormatAgain(t *testing.T) {
	done := false
	for n := 1; !done; n++ {
		x := newRun(t, whole, 1)
		x.write(0, 5)
		x.finish(1)
		x.write(2, 52)
		x.kill(3)
		x.r.Cut(n, all)
		if e := Format(x.r, whole); e == api.OK {
			done = true
		} else if e != api.ErrPower {
			t.Fatalf("Format: %d", e)
		}
		x.r.On()
		if e := Format(x.r, whole); e != api.OK {
			t.Fatalf("Format again: %d", e)
		}
		x.r.Crash()
		a := open(t, x.r, whole)
		for z := range 3 {
			if now, ok := a.Zone(z); now != (zone.Zone{}) || !ok {
				t.Fatalf("zone %d: %+v", z, now)
			}
		}
		wantStatus(t, a, Status{Missing: -1, Rebuilding: -1})
	}
}

// forget empties the log of a drive.
func forget(r *rig.Rig, drives ...int) {
	for _, d := range drives {
		for z := range api.MetaZones {
			r.Do(d, zone.Command{Kind: zone.Reset, Zone: z}, "")
		}
	}
}

// tell writes records to the log of a drive.
func tell(t *testing.T, r *rig.Rig, d int, l ...record.Record) {
	t.Helper()
	log, _, e := mlog.Open(r, d)
	for _, x := range l {
		if e == api.OK {
			e = log.Append(x)
		}
	}
	if e != api.OK {
		t.Fatalf("log %d: %d", d, e)
	}
}

// P17.1: the errors of Open, in their order.
func TestOpenErrors(t *testing.T) {
	wrong := record.Record{Kind: record.Map, Seq: 1000, A: 0, B: 3, C: 9}
	kill := func(r *rig.Rig, drives ...int) {
		for _, d := range drives {
			r.Kill(d)
		}
	}
	for name, c := range map[string]struct {
		spoil func(r *rig.Rig)
		want  api.Errno
	}{
		"nothing":                     {func(r *rig.Rig) {}, api.OK},
		"power off, no logs":          {func(r *rig.Rig) { forget(r, 0, 1, 2, 3); r.Cut(1); r.Flush(0) }, api.ErrPower},
		"no logs":                     {func(r *rig.Rig) { forget(r, 0, 1, 2, 3) }, api.ErrNone},
		"logs on dead drives":         {func(r *rig.Rig) { kill(r, 0, 1, 2, 3) }, api.ErrNone},
		"a log on a dead drive":       {func(r *rig.Rig) { forget(r, 0, 1, 3); kill(r, 2) }, api.ErrNone},
		"no book":                     {func(r *rig.Rig) { tell(t, r, 1, wrong) }, api.ErrCorrupt},
		"no book, on the spare drive": {func(r *rig.Rig) { tell(t, r, 3, wrong) }, api.ErrCorrupt},
		"no book, two dead":           {func(r *rig.Rig) { tell(t, r, 2, wrong); kill(r, 0, 1) }, api.ErrCorrupt},
		"no book, on a dead drive":    {func(r *rig.Rig) { tell(t, r, 1, wrong); kill(r, 1) }, api.OK},
		"one dead":                    {func(r *rig.Rig) { kill(r, 1) }, api.OK},
		"one and the spare dead":      {func(r *rig.Rig) { kill(r, 1, 3) }, api.OK},
		"two dead":                    {func(r *rig.Rig) { kill(r, 0, 2) }, api.ErrFailed},
		"three dead":                  {func(r *rig.Rig) { kill(r, 0, 1, 2) }, api.ErrFailed},
		"two dead, one without a log": {func(r *rig.Rig) { forget(r, 1); kill(r, 0, 2) }, api.ErrFailed},
		"one without a log":           {func(r *rig.Rig) { forget(r, 1) }, api.ErrCorrupt},
		"one without a log, one dead": {func(r *rig.Rig) { forget(r, 1); kill(r, 0) }, api.ErrCorrupt},
		"all but one without a log":   {func(r *rig.Rig) { forget(r, 0, 1, 2) }, api.ErrCorrupt},
		"no log on a dead drive":      {func(r *rig.Rig) { forget(r, 1); kill(r, 1) }, api.OK},
		"no log on the spare drive":   {func(r *rig.Rig) { forget(r, 3) }, api.OK},
		"one dead, another rebuilt":   {func(r *rig.Rig) { tell(t, r, 2, record.Record{Kind: record.Cursor, Seq: 1000, A: 1, B: 3}); kill(r, 0) }, api.ErrFailed},
		"the same dead and rebuilt":   {func(r *rig.Rig) { tell(t, r, 2, record.Record{Kind: record.Cursor, Seq: 1000, A: 1, B: 2}); kill(r, 1) }, api.OK},
	} {
		r := formatted(t, whole)
		c.spoil(r)
		if a, e := Open(r, whole); e != c.want || (a != nil) != (e == api.OK) {
			t.Errorf("%s: %d, want %d", name, e, c.want)
		}
	}
	if _, e := Open(newRig(t, whole), whole); e != api.ErrNone {
		t.Errorf("a rig that was never formatted: %d", e)
	}
}

// P17.1: ErrPower, whenever the power fails while the array is opened.
func TestOpenWithoutPower(t *testing.T) {
	for n, done := 1, false; !done; n++ {
		r := formatted(t, whole)
		r.Cut(n)
		a, e := Open(r, whole)
		switch done = e == api.OK; {
		case done != (a != nil), !done && e != api.ErrPower:
			t.Fatalf("cut at %d: %d", n, e)
		}
	}
}

// P17.2, P17.3, P17.5: calls on a nil array.
func TestNil(t *testing.T) {
	var a *Array
	if text, at, e := a.Do(read(0, 1), ""); text != "" || at != 0 || e != api.ErrArg {
		t.Errorf("Do: %d", e)
	}
	if now, ok := a.Zone(0); now != (zone.Zone{}) || ok {
		t.Errorf("Zone: %+v", now)
	}
	if e := a.Flush(); e != api.ErrArg {
		t.Errorf("Flush: %d", e)
	}
	wantRebuild(t, a, false, api.ErrArg)
	wantStatus(t, a, Status{Missing: -1, Rebuilding: -1})
}

// P17.2: commands with wild numbers, and data that does not match, yield what one drive yields.
func TestWrongCommands(t *testing.T) {
	x := newRun(t, whole, 1)
	x.write(0, 5)
	x.write(1, 52)
	numbers := append([]int{0, 1, 2, 3, 5, 51, 52, 53}, wild...)
	for kind := -1; kind <= 9; kind++ {
		for _, n := range numbers {
			for _, c := range []zone.Command{{Kind: kind, Zone: n, N: 1}, {Kind: kind, At: n, N: 1}, {Kind: kind, At: 5, N: n}, {Kind: kind, Zone: 1, At: n, N: n}} {
				for _, data := range []string{"", blocks(1), blocks(2), blocks(1)[1:], "x"} {
					x.execute(c, data)
				}
			}
		}
	}
	for _, kind := range wild {
		x.execute(zone.Command{Kind: kind}, "")
	}
	x.same()
	x.flush()
}

// P17.2: all results are ErrPower when the power is off, and when it failed in a call, also after it is on again.
func TestErrPower(t *testing.T) {
	r := formatted(t, whole)
	a := open(t, r, whole)
	all := func() {
		t.Helper()
		for _, c := range []zone.Command{read(0, 1), {Kind: zone.Open}, {Kind: zone.Append, N: 1}, {Kind: 99}} {
			if text, at, e := a.Do(c, ""); text != "" || at != 0 || e != api.ErrPower {
				t.Fatalf("%+v: %d", c, e)
			}
		}
		if e := a.Flush(); e != api.ErrPower {
			t.Fatalf("Flush: %d", e)
		}
		wantRebuild(t, a, false, api.ErrPower)
	}
	appendTo(t, a, 0, blocks(3))
	r.Cut(2)
	if text, at, e := a.Do(zone.Command{Kind: zone.Append, N: 3}, blocks(3)); text != "" || at != 0 || e != api.ErrPower {
		t.Fatalf("Append: %d", e)
	}
	all()
	r.On()
	all()
	r.Kill(0)
	r.Kill(1)
	all()

	r = formatted(t, whole)
	a = open(t, r, whole)
	r.Kill(0)
	r.Kill(1)
	if e := a.Flush(); e != api.ErrFailed {
		t.Fatalf("Flush: %d", e)
	}
	r.Cut(1)
	r.Flush(2)
	all() // ErrPower comes before ErrFailed
}

// P17.2: Read, Zone and Status send no modifying command, also while a drive is missing or being rebuilt.
func TestReadModifiesNothing(t *testing.T) {
	r := formatted(t, whole)
	a := open(t, r, whole)
	want := blocks(11)
	appendTo(t, a, 1, want)
	look := func() {
		t.Helper()
		count := r.Count()
		r.Cut(1)
		wantRead(t, a, 1, want)
		a.Zone(1)
		a.Status()
		if r.Off() || r.Count() != count {
			t.Fatal("a command that modifies")
		}
		r.On()
	}
	look()
	r.Kill(2)
	look()
	for range whole.Zones - 1 {
		a.Rebuild()
		look()
	}
	r.Kill(0)
	look()
}

// The document's examples 1 to 4, and the chapter's.
func TestExamples(t *testing.T) {
	r := formatted(t, whole)
	a := open(t, r, whole)
	want := blocks(5)
	appendTo(t, a, 0, want)
	for _, c := range []struct{ drive, block int }{{1, 0}, {2, 1}} {
		if text, _, e := r.Do(c.drive, zone.Command{Kind: zone.Read, Zone: 2, N: 1}, ""); e != api.OK || text != split(want)[c.block] {
			t.Errorf("block %d is not on drive %d: %d", c.block, c.drive, e)
		}
	}
	r.Kill(1)
	wantRead(t, a, 0, want)
	rebuildAll(t, a, whole)
	r.Kill(2)
	wantRead(t, a, 0, want)
	r.Kill(0)
	for range 3 {
		if text, at, e := a.Do(read(0, 5), ""); text != "" || at != 0 || e != api.ErrFailed {
			t.Errorf("Read of a failed array: %d", e)
		}
	}
}

// The document's examples 5 and 6.
func TestExamplesOfPower(t *testing.T) {
	r := formatted(t, whole)
	a := open(t, r, whole)
	appendTo(t, a, 0, blocks(3))
	if e := a.Flush(); e != api.OK {
		t.Fatal(e)
	}
	appendTo(t, a, 0, blocks(3))
	r.Crash()
	a = open(t, r, whole)
	if now, _ := a.Zone(0); now != (zone.Zone{State: zone.Closed, Length: 3}) {
		t.Errorf("%+v", now)
	}
	wantRead(t, a, 0, blocks(3))
	for n := 1; ; n++ {
		r.Cut(n)
		_, _, e := a.Do(zone.Command{Kind: zone.Reset}, "")
		r.On()
		if e == api.OK {
			break
		}
		a = open(t, r, whole)
		switch now, _ := a.Zone(0); now {
		case zone.Zone{State: zone.Closed, Length: 3}:
			wantRead(t, a, 0, blocks(3))
		case zone.Zone{}:
			appendTo(t, a, 0, blocks(3))
		default:
			t.Fatalf("cut at %d: %+v", n, now)
		}
	}
	if now, _ := a.Zone(0); now != (zone.Zone{}) {
		t.Errorf("after a Reset: %+v", now)
	}
}

// P17.2: when two drives have died, each result is what it would have been, or ErrFailed, and ErrFailed from the first one on.
func TestFailed(t *testing.T) {
	g := four
	for first := range g.Drives {
		for second := range g.Drives {
			for seed := range 20 {
				if first != second {
					failedRun(t, g, first, second, int64(seed))
				}
			}
		}
	}
}

func failedRun(t *testing.T, g api.Geometry, first, second int, seed int64) {
	t.Helper()
	x := newRun(t, g, seed)
	x.write(0, 7)
	x.r.Kill(first)
	if seed%2 == 0 {
		x.flush()
		wantStatus(t, x.a, Status{Missing: first, Rebuilding: -1})
	}
	x.r.Kill(second)
	failed := false
	for range 40 {
		c, data := x.command()
		wantText, wantAt, want := x.flat.Do(c, data)
		text, at, e := x.a.Do(c, data)
		if e == api.ErrFailed && text == "" && at == 0 {
			failed = true
			break
		}
		if e != want || at != wantAt || text != wantText {
			t.Fatalf("drives %d, %d: %+v: %d, want %d", first, second, c, e, want)
		}
	}
	if e := x.a.Flush(); e != api.ErrFailed {
		t.Fatalf("Flush: %d", e)
	}
	s := x.a.Status()
	if !s.Failed || s.Missing != first && s.Missing != second || seed%2 == 0 && s.Missing != second {
		t.Fatalf("drives %d, %d, failed %v: %+v", first, second, failed, s)
	}
	for _, c := range []zone.Command{read(0, 1), {Kind: zone.Open}, {Kind: zone.Append, N: 1}, {Kind: 99}} {
		if _, _, e := x.a.Do(c, ""); e != api.ErrFailed {
			t.Fatalf("%+v: %d", c, e)
		}
	}
	wantRebuild(t, x.a, false, api.ErrFailed)
	if _, e := Open(x.r, g); e != api.ErrFailed {
		t.Fatalf("Open: %d", e)
	}
}

// P17.5: a drive that died is detected by a command to it, and not before.
func TestDetection(t *testing.T) {
	r := formatted(t, whole)
	a := open(t, r, whole)
	appendTo(t, a, 0, blocks(2))
	r.Kill(1)
	a.Zone(0)
	wantStatus(t, a, Status{Missing: -1, Rebuilding: -1})
	if text, _, e := a.Do(zone.Command{Kind: zone.Read, At: 1, N: 1}, ""); e != api.OK || text != blocks(2)[api.Block:] {
		t.Fatalf("Read: %d", e)
	}
	wantStatus(t, a, Status{Missing: -1, Rebuilding: -1})
	wantRead(t, a, 0, blocks(1))
	wantStatus(t, a, Status{Missing: 1, Rebuilding: -1})

	a = open(t, r, whole)
	wantStatus(t, a, Status{Missing: 1, Rebuilding: -1})
	for name, call := range map[string]func(a *Array) api.Errno{
		"Flush":   (*Array).Flush,
		"Rebuild": func(a *Array) api.Errno { _, e := a.Rebuild(); return e },
	} {
		for d := range 3 {
			r := formatted(t, whole)
			a := open(t, r, whole)
			r.Kill(3)
			r.Kill(d)
			if e := call(a); e != api.OK && (name == "Flush" || e != api.ErrNone) {
				t.Errorf("%s: %d", name, e)
			}
			wantStatus(t, a, Status{Missing: d, Rebuilding: -1})
		}
	}
}

// P17.5: Rebuild, and what can die after it.
func TestRebuild(t *testing.T) {
	for _, g := range geometries {
		for d := range g.Drives {
			r := formatted(t, g)
			a := open(t, r, g)
			wantRebuild(t, a, true, api.OK)
			appendTo(t, a, 0, blocks(g.Drives))
			r.Kill(d)
			for step := range g.Zones - 2 {
				wantRebuild(t, a, false, api.OK)
				wantStatus(t, a, Status{Missing: -1, Rebuilding: d})
				if step%2 == 0 {
					a = open(t, r, g)
					wantStatus(t, a, Status{Missing: -1, Rebuilding: d})
				}
			}
			wantRebuild(t, a, true, api.OK)
			wantStatus(t, a, Status{Missing: -1, Rebuilding: -1})
			wantRebuild(t, a, true, api.OK)
			other := (d + 1) % g.Drives
			r.Kill(other)
			wantRead(t, a, 0, blocks(g.Drives))
			wantRebuild(t, a, false, api.ErrNone)
			wantStatus(t, a, Status{Missing: other, Rebuilding: -1})
			r.Crash()
			a = open(t, r, g)
			wantRead(t, a, 0, blocks(g.Drives))
			r.Kill((d + 2) % g.Drives)
			wantRebuild(t, a, false, api.ErrFailed)
		}
	}
}

// P17.5: drives that die while a slot is being rebuilt. Without the spare one the array goes on; without another one it has
// failed.
func TestDeathWhileRebuilding(t *testing.T) {
	for steps := 1; steps < whole.Zones-1; steps++ {
		for d := range 4 {
			r := formatted(t, whole)
			a := open(t, r, whole)
			appendTo(t, a, 0, blocks(5))
			r.Kill(1)
			for range steps {
				wantRebuild(t, a, false, api.OK)
			}
			appendTo(t, a, 1, blocks(5))
			r.Kill(d)
			switch d {
			case 1: // it is dead already
			case 3:
				wantRebuild(t, a, false, api.ErrNone)
				wantStatus(t, a, Status{Missing: 1, Rebuilding: 1})
				wantRead(t, a, 0, blocks(5))
				wantRead(t, a, 1, blocks(5))
				a = open(t, r, whole)
				wantStatus(t, a, Status{Missing: 1, Rebuilding: 1})
				wantRebuild(t, a, false, api.ErrNone)
				wantRead(t, a, 1, blocks(5))
			default:
				wantRebuild(t, a, false, api.ErrFailed)
				wantStatus(t, a, Status{Missing: d, Rebuilding: 1, Failed: true})
				if _, e := Open(r, whole); e != api.ErrFailed {
					t.Fatalf("Open: %d", e)
				}
			}
		}
	}
}

// P17.5: without a spare drive, a rebuilding that was begun by its Cursor alone goes on as one that was not begun.
func TestBegunByCursor(t *testing.T) {
	r := formatted(t, whole)
	a := open(t, r, whole)
	appendTo(t, a, 0, blocks(7))
	if e := a.Flush(); e != api.OK {
		t.Fatal(e)
	}
	tell(t, r, 2, record.Record{Kind: record.Cursor, Seq: 1000, A: 0, B: 2})
	r.Kill(0)
	a = open(t, r, whole)
	wantStatus(t, a, Status{Missing: 0, Rebuilding: 0})
	wantRead(t, a, 0, blocks(7))
	rebuildAll(t, a, whole)
	r.Kill(1)
	wantRead(t, a, 0, blocks(7))
}

// P17.4: a zone of which the logs state that it is being emptied is Empty.
func TestEmptying(t *testing.T) {
	r := formatted(t, whole)
	a := open(t, r, whole)
	appendTo(t, a, 0, blocks(7))
	appendTo(t, a, 1, blocks(7))
	if e := a.Flush(); e != api.OK {
		t.Fatal(e)
	}
	tell(t, r, 1, record.Record{Kind: record.Map, Seq: 1000, A: 0, B: 2, C: 2, D: book.Emptying})
	tell(t, r, 1, record.Record{Kind: record.Map, Seq: 1001, A: 2, B: 4, C: 2, D: book.Emptying})
	a = open(t, r, whole)
	for z, want := range []zone.Zone{{}, {State: zone.Closed, Length: 7}, {}} {
		if now, _ := a.Zone(z); now != want {
			t.Fatalf("zone %d: %+v", z, now)
		}
	}
	appendTo(t, a, 0, blocks(3))
	appendTo(t, a, 2, blocks(4))
	if e := a.Flush(); e != api.OK {
		t.Fatal(e)
	}
	r.Crash()
	a = open(t, r, whole)
	for z, n := range []int{3, 7, 4} {
		wantRead(t, a, z, blocks(n))
	}
}

// P17.4: a note that was left in the log of the spare drive is of no account.
func TestNoteOfSpare(t *testing.T) {
	r := formatted(t, whole)
	tell(t, r, 3, record.Record{Kind: record.Parity, Seq: 1000, A: 0, B: 0, C: 1, D: 1, Body: content(1)})
	r.Kill(1)
	if now, _ := open(t, r, whole).Zone(0); now != (zone.Zone{}) {
		t.Errorf("%+v", now)
	}
}

// P17.4: zones beside many that are Full lose no block that was flushed, however few can be active: those that lost blocks in
// a power failure are repaired all the same.
func TestFewActive(t *testing.T) {
	g := api.Geometry{Drives: 3, Zones: 10, Blocks: 35, Open: 1, Active: 4}
	for seed := range int64(20) {
		x := newRun(t, g, seed)
		x.cuts = true
		for z := range 6 {
			x.write(z, 13)
			x.write(z, geom.Capacity(g)-13)
		}
		x.write(6, 8)
		x.r.Crash(x.keep()...)
		x.reopen()
		x.reset(6)
		x.write(6, 5)
		x.r.Crash(x.keep()...)
		x.reopen()
	}
}

// P17.5: zones that are finished count as little on a drive that was rebuilt.
func TestFewActiveOnSpare(t *testing.T) {
	g := api.Geometry{Drives: 3, Zones: 10, Blocks: 35, Open: 1, Active: 4}
	for d := range 3 {
		x := newRun(t, g, 1)
		for z := range 6 {
			x.write(z, 13)
			x.finish(z)
		}
		x.write(6, 13)
		x.kill(d)
		rebuildAll(t, x.a, g)
		x.reset(6)
		x.reset(2)
		x.write(2, 70)
		x.write(6, 5)
		x.flush()
		x.same()
	}
}

// P1: an array that is used after a power failure from another cause does not do what it should, but returns.
func TestUsedAfterCrash(t *testing.T) {
	for seed := range int64(300) {
		x := newRun(t, geometries[seed%int64(len(geometries))], seed)
		for i := range 60 {
			c, data := x.command()
			x.a.Do(c, data)
			x.flat.Do(c, data)
			switch x.random.Intn(8) {
			case 0:
				x.a.Flush()
			case 1:
				x.a.Rebuild()
			case 2:
				if i > 20 {
					x.r.Crash(x.keep()...)
				}
			case 3:
				if i > 40 {
					x.r.Kill(x.random.Intn(4))
				}
			}
		}
	}
	for _, a := range []*Array{{}, new(Array)} {
		a.Do(read(0, 1), "")
		a.Do(zone.Command{Kind: zone.Append, N: 1}, blocks(1))
		a.Flush()
		a.Rebuild()
		a.Zone(0)
		a.Status()
	}
}

// The rules that hold everywhere: results are not changed by later calls, nor is what was passed.
func TestNothingShared(t *testing.T) {
	r := formatted(t, whole)
	a := open(t, r, whole)
	appendTo(t, a, 0, blocks(4))
	text, _, _ := a.Do(read(0, 4), "")
	kept := strings.Clone(text)
	a.Do(zone.Command{Kind: zone.Reset}, "")
	appendTo(t, a, 0, strings.Repeat("x", 4*api.Block))
	if text != kept || !slices.Equal(split(kept), split(blocks(4))) {
		t.Error("a result changed")
	}
}
