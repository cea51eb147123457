package array

import (
	"math/rand"
	"slices"
	"strings"
	"testing"

	"corbel/api"
	"corbel/book"
	"corbel/drive"
	"corbel/geom"
	"corbel/mlog"
	"corbel/notes"
	"corbel/plan"
	"corbel/record"
	"corbel/rig"
	"corbel/xor"
	"corbel/zone"
)

// history is what P17.4 asks to know of a zone: the blocks that were written since it was emptied, how many of them are
// durable, and what it may be after a power failure.
type history struct {
	blocks   []string
	durable  int
	finished bool // it was, as far as is known
	mustFull bool
	mayFull  bool
	mayEmpty bool
}

// run is an array beside a drive of layer 7 that does the same, and the histories of its zones.
type run struct {
	t      *testing.T
	random *rand.Rand
	g      api.Geometry
	r      *rig.Rig
	a      *Array
	flat   *drive.Drive
	zones  []history
	blocks int  // written at all: each has a content of its own
	cuts   bool // the power may fail
	dead   int  // the slot's drive that died and is not rebuilt yet; -1 if there is none
	spent  bool // the spare drive is in use, or has died
	steps  int  // of rebuilding since a drive died, with those in which the power failed
	failed int  // power failures since then
}

func newRun(t *testing.T, g api.Geometry, seed int64) *run {
	t.Helper()
	x := &run{t: t, random: rand.New(rand.NewSource(seed)), g: g, r: newRig(t, g), dead: -1}
	if e := Format(x.r, g); e != api.OK {
		t.Fatalf("Format: %d", e)
	}
	x.zones = make([]history, geom.Zones(g))
	x.flat = flatDrive(t, g)
	x.a = open(t, x.r, g)
	return x
}

func newRig(t *testing.T, g api.Geometry) *rig.Rig {
	t.Helper()
	r, e := rig.New(g, g.Drives+1)
	if e != api.OK {
		t.Fatalf("rig.New: %d", e)
	}
	return r
}

func open(t *testing.T, r *rig.Rig, g api.Geometry) *Array {
	t.Helper()
	a, e := Open(r, g)
	if e != api.OK {
		t.Fatalf("Open: %d", e)
	}
	return a
}

// flatDrive returns the drive of layer 7 that an array is to be like.
func flatDrive(t *testing.T, g api.Geometry) *drive.Drive {
	t.Helper()
	nOpen, nActive := Limits(g)
	d, e := drive.New(geom.Zones(g), geom.Capacity(g), nOpen, nActive)
	if e != api.OK {
		t.Fatalf("drive.New: %d", e)
	}
	return d
}

// data returns blocks that were never written before.
func (x *run) data(n int) string {
	var b strings.Builder
	for range max(n, 0) {
		x.blocks++
		b.WriteString(content(x.blocks))
	}
	return b.String()
}

// content returns a block that is no sum of a few others.
func content(n int) string {
	b := make([]byte, api.Block)
	for i := range b {
		n = n*1103515245 + 12345
		b[i] = byte(n >> 16)
	}
	return string(b)
}

func split(data string) []string {
	var l []string
	for ; data != ""; data = data[api.Block:] {
		l = append(l, data[:api.Block])
	}
	return l
}

// execute does a command on the array and on the drive, and notes it in the history of its zone.
func (x *run) execute(c zone.Command, data string) {
	x.t.Helper()
	before, _ := x.flat.Zone(c.Zone)
	wantText, wantAt, want := x.flat.Do(c, data)
	text, at, e := x.a.Do(c, data)
	cut := e == api.ErrPower && x.cuts && x.r.Off() && want == api.OK && text == "" && at == 0
	if !cut && (e != want || at != wantAt || text != wantText) {
		x.t.Fatalf("%+v: %d, %d, want %d, %d; the text is the same: %v", c, at, e, wantAt, want, text == wantText)
	}
	if want != api.OK {
		return
	}
	h := &x.zones[c.Zone]
	switch {
	case c.Kind == zone.Write || c.Kind == zone.Append:
		h.blocks = append(h.blocks, split(data)...)
	case c.Kind == zone.Reset && cut:
		h.mayEmpty = true
	case c.Kind == zone.Reset:
		*h = history{}
	case c.Kind == zone.Open && !cut:
		h.durable = len(h.blocks)
	case c.Kind == zone.Finish && before.State != zone.Full:
		h.mayFull = true
		if !cut {
			h.finished, h.durable = true, len(h.blocks)
		}
	}
}

func (x *run) write(z, n int) {
	x.t.Helper()
	x.execute(zone.Command{Kind: zone.Append, Zone: z, N: n}, x.data(n))
}

func (x *run) reset(z int) {
	x.t.Helper()
	x.execute(zone.Command{Kind: zone.Reset, Zone: z}, "")
}

func (x *run) finish(z int) {
	x.t.Helper()
	x.execute(zone.Command{Kind: zone.Finish, Zone: z}, "")
}

func (x *run) flush() {
	x.t.Helper()
	e := x.a.Flush()
	if e == api.ErrPower && x.cuts && x.r.Off() {
		return
	}
	if e != api.OK {
		x.t.Fatalf("Flush: %d", e)
	}
	for z := range x.zones {
		h := &x.zones[z]
		h.durable, h.mustFull = len(h.blocks), h.mustFull || h.finished
	}
	x.layout()
}

// kill makes a drive die, if the array bears it.
func (x *run) kill(d int) {
	if x.dead >= 0 || x.r.Dead(d) {
		return
	}
	x.r.Kill(d)
	if slices.Contains(x.a.book.Members, d) {
		x.dead, x.steps, x.failed = d, 0, 0
	} else {
		x.spent = true
	}
}

// rebuild executes a step of rebuilding, and checks that there are no more than P17.5 permits.
func (x *run) rebuild() {
	x.t.Helper()
	inUse := x.a.book.Slot >= 0 && !x.r.Dead(x.g.Drives)
	done, e := x.a.Rebuild()
	switch {
	case e == api.ErrPower && !done && x.cuts && x.r.Off():
		x.steps++
	case x.dead < 0:
		if e != api.OK || !done {
			x.t.Fatalf("Rebuild, and no drive is missing: %v, %d", done, e)
		}
	case x.spent && !inUse:
		if e != api.ErrNone || done {
			x.t.Fatalf("Rebuild without a spare drive: %v, %d", done, e)
		}
	default:
		x.spent = true
		x.steps++
		if e != api.OK || !done && x.steps >= x.g.Zones-1+x.failed {
			x.t.Fatalf("Rebuild, step %d, after %d power failures: %v, %d", x.steps, x.failed, done, e)
		}
		if done {
			x.dead = -1
		}
	}
}

// same checks that the array's zones are those of the drive.
func (x *run) same() {
	x.t.Helper()
	for z := -1; z <= len(x.zones); z++ {
		got, ok := x.a.Zone(z)
		want, wantOK := x.flat.Zone(z)
		if got != want || ok != wantOK {
			x.t.Fatalf("zone %d: %+v, %v, want %+v, %v", z, got, ok, want, wantOK)
		}
	}
}

// reopen opens the array once; it reports whether the power did not fail. What is found is checked, and is the history then.
func (x *run) reopen() bool {
	x.t.Helper()
	x.failed++
	a, e := Open(x.r, x.g)
	if e == api.ErrPower && a == nil && x.r.Off() {
		return false
	}
	if e != api.OK {
		x.t.Fatalf("Open: %d", e)
	}
	x.a, x.flat = a, flatDrive(x.t, x.g)
	for _, isFull := range []bool{true, false} { // first those that are not active
		for z := range x.zones {
			if now, _ := x.a.Zone(z); (now.State == zone.Full) == isFull {
				x.found(z, now)
			}
		}
	}
	if e := x.flat.Flush(); e != api.OK {
		x.t.Fatal(e)
	}
	x.flat.Lose(nil)
	x.same()
	x.layout()
	x.spent = x.spent || slices.Contains(a.book.Members, x.g.Drives)
	if x.dead >= 0 && x.a.Status() == (Status{Missing: -1, Rebuilding: -1}) {
		x.dead = -1 // the last step was executed, although the power failed in it
	}
	return true
}

// found checks what remains of a zone, and takes it over.
func (x *run) found(z int, now zone.Zone) {
	x.t.Helper()
	h := &x.zones[z]
	n := now.Length
	emptied := h.mayEmpty && now == zone.Zone{}
	isFinished := now.State == zone.Full && n < geom.Capacity(x.g)
	switch {
	case emptied:
	case n < h.durable || n > len(h.blocks):
		x.t.Fatalf("zone %d: %d blocks remain, want %d to %d", z, n, h.durable, len(h.blocks))
	case n == geom.Capacity(x.g) && now.State != zone.Full, h.mustFull && now.State != zone.Full, isFinished && !h.mayFull:
		x.t.Fatalf("zone %d: %+v, history %v, %v", z, now, h.mustFull, h.mayFull)
	case now.State != zone.Full && n == 0 && now.State != zone.Empty, now.State != zone.Full && n > 0 && now.State != zone.Closed:
		x.t.Fatalf("zone %d: %+v", z, now)
	}
	if n > 0 {
		text, _, e := x.a.Do(zone.Command{Kind: zone.Read, Zone: z, N: n}, "")
		if e != api.OK || !slices.Equal(split(text), h.blocks[:n]) {
			x.t.Fatalf("zone %d: Read of %d blocks: %d, or they are not as written", z, n, e)
		}
		x.flat.Do(zone.Command{Kind: zone.Append, Zone: z, N: n}, text)
	}
	if isFinished {
		x.flat.Do(zone.Command{Kind: zone.Finish, Zone: z}, "")
	}
	*h = history{blocks: h.blocks[:n], durable: n, finished: isFinished, mustFull: isFinished, mayFull: isFinished}
}

// layout checks that the drives have what layers 4, 10, 13 and 14 state, as far as they are alive.
func (x *run) layout() {
	x.t.Helper()
	var lists [][]record.Record
	of := map[int][]record.Record{}
	for d := range x.r.Drives() {
		if _, l, e := mlog.Open(x.r, d); e == api.OK {
			lists, of[d] = append(lists, l), l
		}
	}
	b, e := book.Read(x.g, lists...)
	if e != api.OK {
		x.t.Fatalf("the logs yield no book: %d", e)
	}
	for z := range x.zones {
		now, _ := x.a.Zone(z)
		if now.Length != len(x.zones[z].blocks) || b.Zones[z].State == book.Emptying {
			x.t.Fatalf("zone %d: %+v, want %d blocks; %+v", z, now, len(x.zones[z].blocks), b.Zones[z])
		}
		for slot, d := range b.Members {
			if !x.r.Dead(d) {
				x.layoutOf(z, slot, b, of[d])
			}
		}
	}
}

func (x *run) layoutOf(z, slot int, b book.Book, l []record.Record) {
	x.t.Helper()
	at, d, blocks, perRow := b.Zones[z], b.Members[slot], x.zones[z].blocks, x.g.Drives-1
	want := 0
	if b.Has(slot, at.Phys) {
		want = plan.Lengths(x.g, z, len(blocks))[slot]
	}
	if got, _ := x.r.Zone(d, at.Phys); got.Length != want {
		x.t.Fatalf("zone %d: slot %d has %d blocks, want %d", z, slot, got.Length, want)
	}
	for row := range want {
		text, _, _ := x.r.Do(d, zone.Command{Kind: zone.Read, Zone: at.Phys, At: row, N: 1}, "")
		wantText := xor.Fold(blocks[row*perRow : min((row+1)*perRow, len(blocks))]...)
		if block, ok := geom.Back(x.g, z, row, slot); ok {
			wantText = blocks[block]
		}
		if text != wantText {
			x.t.Fatalf("zone %d: row %d of slot %d is not as layer 13 states", z, row, slot)
		}
	}
	row, count := len(blocks)/perRow, len(blocks)%perRow
	n := notes.Note{Row: row, Count: count, Parity: xor.Fold(blocks[row*perRow:]...)}
	if count > 0 && geom.Parity(x.g, z, row) == slot && !slices.Contains(notes.Of(l, z, at.Gen), n) {
		x.t.Fatalf("zone %d: slot %d has no note of row %d with the count %d", z, slot, row, count)
	}
}
