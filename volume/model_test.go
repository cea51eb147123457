package volume

import (
	"math/rand"
	"slices"
	"strings"
	"testing"

	"corbel/api"
	"corbel/array"
	"corbel/fit"
	"corbel/geom"
	"corbel/group"
	"corbel/lmap"
	"corbel/rig"
	"corbel/zone"
)

// step sets a block: one of a Write or a Trim.
type step struct {
	block int
	text  string
}

// run is a volume beside the flat sequence of blocks that it is to be, and what a power failure may leave: the durable blocks
// after some of the steps since.
type run struct {
	t       *testing.T
	random  *rand.Rand
	g       api.Geometry
	r       *rig.Rig
	v       *Volume
	flat    []string
	durable []string
	steps   []step
	written int  // blocks at all: each has a content of its own
	cuts    bool // the power may fail
	dead    int  // the slot's drive that died and is not rebuilt yet; -1 if there is none
	spent   bool // the spare drive is in use, or has died
	rebuilt int  // steps of rebuilding since a drive died
	failed  int  // power failures since then
}

// zeros is what a block has that was not written.
var zeros = strings.Repeat("\x00", api.Block)

func newRun(t *testing.T, g api.Geometry, seed int64) *run {
	t.Helper()
	x := &run{t: t, random: rand.New(rand.NewSource(seed)), g: g, r: formatted(t, g), dead: -1}
	x.flat = slices.Repeat([]string{zeros}, fit.Size(g))
	x.durable = slices.Clone(x.flat)
	x.v = open(t, x.r, g)
	return x
}

func newRig(t *testing.T, g api.Geometry) *rig.Rig {
	t.Helper()
	r, e := rig.New(g, g.Drives+1)
	if e != api.OK {
		t.Fatalf("rig.New: %d", e)
	}
	return r
}

func formatted(t *testing.T, g api.Geometry) *rig.Rig {
	t.Helper()
	r := newRig(t, g)
	if e := Format(r, g); e != api.OK {
		t.Fatalf("Format: %d", e)
	}
	return r
}

func open(t *testing.T, r *rig.Rig, g api.Geometry) *Volume {
	t.Helper()
	v, e := Open(r, g)
	if e != api.OK || v == nil {
		t.Fatalf("Open: %d", e)
	}
	return v
}

// data returns blocks that were never written before.
func (x *run) data(n int) string {
	var b strings.Builder
	for range n {
		x.written++
		b.WriteString(content(x.written))
	}
	return b.String()
}

// content returns a block that is no sum of a few others.
func content(n int) string {
	b := make([]byte, api.Block)
	for i := range b {
		n = n*1103515245 + 12345
		b[i] = byte(n >> 16)
	}
	return string(b)
}

func split(data string) []string {
	var l []string
	for ; data != ""; data = data[api.Block:] {
		l = append(l, data[:api.Block])
	}
	return l
}

// within reports whether there are blocks, all of them of the volume.
func (x *run) within(block, n int) bool {
	return block >= 0 && n >= 1 && n <= len(x.flat) && block <= len(x.flat)-n
}

// cut reports whether a call may have returned e because the power failed.
func (x *run) cut(e api.Errno) bool {
	return e == api.ErrPower && x.cuts && x.r.Off()
}

// changed takes in that blocks were set, or that the power failed meanwhile.
func (x *run) changed(name string, block int, l []string, e api.Errno) {
	x.t.Helper()
	want := api.OK
	if !x.within(block, len(l)) {
		want = api.ErrRange
	}
	if e != want && !(want == api.OK && x.cut(e)) {
		x.t.Fatalf("%s of %d blocks from %d on: %d, want %d", name, len(l), block, e, want)
	}
	if want != api.OK {
		return
	}
	for i, text := range l {
		x.flat[block+i] = text
		x.steps = append(x.steps, step{block + i, text})
	}
}

func (x *run) write(block, n int) {
	x.t.Helper()
	data := x.data(n)
	x.changed("Write", block, split(data), x.v.Write(block, data))
}

func (x *run) trim(block, n int) {
	x.t.Helper()
	x.changed("Trim", block, slices.Repeat([]string{zeros}, max(n, 0)), x.v.Trim(block, n))
}

func (x *run) read(block, n int) {
	x.t.Helper()
	count := x.r.Count()
	text, e := x.v.Read(block, n)
	want, wantText := api.ErrRange, ""
	if x.within(block, n) {
		want, wantText = api.OK, strings.Join(x.flat[block:block+n], "")
	}
	if e != want || text != wantText {
		x.t.Fatalf("Read of %d blocks from %d on: %d, want %d; the text is the same: %v", n, block, e, want, text == wantText)
	}
	if x.r.Count() != count {
		x.t.Fatalf("Read of %d blocks from %d on: a command that modifies", n, block)
	}
}

func (x *run) flush() {
	x.t.Helper()
	e := x.v.Flush()
	if x.cut(e) {
		return
	}
	if e != api.OK {
		x.t.Fatalf("Flush: %d", e)
	}
	copy(x.durable, x.flat)
	x.steps = nil
}

// closed returns how many zones have blocks and are no longer written.
func (x *run) closed() int {
	n := 0
	for _, z := range x.v.zones() {
		if z.Length > 0 && !z.Open {
			n++
		}
	}
	return n
}

func (x *run) clean() {
	x.t.Helper()
	want := x.closed() > 0
	done, e := x.v.Clean()
	if x.cut(e) && want && !done {
		return
	}
	if e != api.OK || done != want {
		x.t.Fatalf("Clean: %v, %d, want %v", done, e, want)
	}
}

// kill makes a drive die, if the array bears it.
func (x *run) kill(d int) {
	if x.dead >= 0 || x.r.Dead(d) {
		return
	}
	x.r.Kill(d)
	if d == x.g.Drives && !x.spent {
		x.spent = true
		return
	}
	x.dead, x.rebuilt, x.failed = d, 0, 0
}

// rebuild executes a step of rebuilding, and checks that there are no more than layer 17 permits.
func (x *run) rebuild() {
	x.t.Helper()
	inUse := x.v.Status().Rebuilding >= 0 && !x.r.Dead(x.g.Drives)
	done, e := x.v.Rebuild()
	switch {
	case x.cut(e) && !done:
		x.rebuilt++
	case x.dead < 0:
		if e != api.OK || !done {
			x.t.Fatalf("Rebuild, and no drive is missing: %v, %d", done, e)
		}
	case x.spent && !inUse:
		if e != api.ErrNone || done {
			x.t.Fatalf("Rebuild without a spare drive: %v, %d", done, e)
		}
	default:
		x.spent = true
		x.rebuilt++
		if e != api.OK || !done && x.rebuilt >= x.g.Zones-1+x.failed {
			x.t.Fatalf("Rebuild, step %d, after %d power failures: %v, %d", x.rebuilt, x.failed, done, e)
		}
		if done {
			x.dead = -1
		}
	}
}

// reopen opens the volume once; it reports whether the power did not fail. What is found is checked, and is durable then.
func (x *run) reopen() bool {
	x.t.Helper()
	x.failed++
	v, e := Open(x.r, x.g)
	if v == nil && x.cut(e) {
		return false
	}
	if e != api.OK {
		x.t.Fatalf("Open: %d", e)
	}
	x.v = v
	x.found()
	x.state()
	if s := v.Status(); x.dead >= 0 && s == (array.Status{Missing: -1, Rebuilding: -1}) {
		x.dead = -1 // the last step was executed, although the power failed in it
	} else if x.dead >= 0 && s.Rebuilding >= 0 && !x.r.Dead(x.g.Drives) {
		x.spent = true // as was the first one
	}
	return true
}

// found checks that the volume is as it was when it was durable, after some of the steps since, and takes that over.
func (x *run) found() {
	x.t.Helper()
	all, e := x.v.Read(0, len(x.flat))
	if e != api.OK {
		x.t.Fatalf("Read of all: %d", e)
	}
	got := split(all)
	n := 0
	for ; !slices.Equal(got, x.durable) && n < len(x.steps); n++ {
		x.durable[x.steps[n].block] = x.steps[n].text
	}
	if !slices.Equal(got, x.durable) {
		x.t.Fatalf("not what was durable after some of %d steps", len(x.steps))
	}
	copy(x.flat, x.durable)
	x.steps = nil
}

// state checks what the volume keeps between two calls: a zone is Empty, no more than one is active, and the current one is
// that; what is known of the groups is what the zones have.
func (x *run) state() {
	x.t.Helper()
	empty, active := 0, []int{}
	newest, places := lmap.New(), map[lmap.Where]int{}
	for z := range geom.Zones(x.g) {
		now, _ := x.v.array.Zone(z)
		switch now.State {
		case zone.Empty:
			empty++
			continue
		case zone.Implicit, zone.Explicit, zone.Closed:
			active = append(active, z)
		}
		text, _, e := x.v.array.Do(zone.Command{Kind: zone.Read, Zone: z, N: now.Length}, "")
		if e != api.OK {
			x.t.Fatalf("Read of zone %d: %d", z, e)
		}
		x.groups(z, text, newest, places)
	}
	if empty == 0 {
		x.t.Fatal("no zone is Empty")
	}
	if len(active) > 1 || len(active) == 1 && active[0] != x.v.current {
		x.t.Fatalf("the zones %v are active, the current one is %d", active, x.v.current)
	}
	for block := range x.flat {
		where, isTrim, ok := newest.Get(block)
		if w, i, o := x.v.newest.Get(block); w != where || i != isTrim || o != ok {
			x.t.Fatalf("block %d is taken to be in %+v, and is in %+v", block, w, where)
		}
	}
	for w, at := range places {
		if x.v.places[w] != at {
			x.t.Fatalf("%+v is taken to be at %d, and is at %d", w, x.v.places[w], at)
		}
	}
	if len(places) != len(x.v.places) {
		x.t.Fatalf("%d places are kept, want %d", len(x.v.places), len(places))
	}
}

// groups takes in the groups of a zone.
func (x *run) groups(z int, text string, newest *lmap.Map, places map[lmap.Where]int) {
	l, begins := group.Scan(text)
	for i, g := range l {
		newest.Add(z, begins[i], g)
		at := begins[i]
		for k, entry := range g.Entries {
			if !entry.Trim {
				at++
				places[lmap.Where{Zone: z, At: begins[i], Entry: k}] = at
			}
		}
	}
}
