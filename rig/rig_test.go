package rig

import (
	"math"
	"slices"
	"strings"
	"testing"

	"corbel/api"
	"corbel/geom"
	"corbel/zone"
)

// wild are numbers that are no index and no number of anything.
var wild = []int{-1, -2, math.MinInt, math.MinInt + 1, 1 << 20, 1 << 32, math.MaxInt - 1, math.MaxInt}

var small = api.Geometry{Drives: 3, Zones: 5, Blocks: 6, Open: 2, Active: 3}

// fill returns a block of each of the letters.
func fill(letters string) string {
	s := ""
	for i := range len(letters) {
		s += strings.Repeat(letters[i:i+1], api.Block)
	}
	return s
}

func newRig(t *testing.T, drives int) *Rig {
	t.Helper()
	r, e := New(small, drives)
	if e != api.OK || r == nil {
		t.Fatalf("New: %d", e)
	}
	return r
}

// expect executes a command, of which the results are to be these.
func expect(t *testing.T, r *Rig, drive int, c zone.Command, data, want string, at int, e api.Errno) {
	t.Helper()
	if s, i, got := r.Do(drive, c, data); s != want || i != at || got != e {
		t.Errorf("drive %d, %+v with %d bytes = %q, %d, %d, want %q, %d, %d", drive, c, len(data), s, i, got, want, at, e)
	}
}

// appendTo appends a block of each of the letters to a zone of a drive, which is to return OK.
func appendTo(t *testing.T, r *Rig, drive, z int, letters string) {
	t.Helper()
	before, _ := r.Zone(drive, z)
	expect(t, r, drive, appending(z, letters), fill(letters), "", before.Length, api.OK)
}

func appending(z int, letters string) zone.Command {
	return zone.Command{Kind: zone.Append, Zone: z, N: len(letters)}
}

func expectFlush(t *testing.T, r *Rig, drive int, want api.Errno) {
	t.Helper()
	if e := r.Flush(drive); e != want {
		t.Errorf("Flush(%d): %d, want %d", drive, e, want)
	}
}

// expectBlocks examines the number of blocks of a zone of each drive, and that those are the first of the letters.
func expectBlocks(t *testing.T, r *Rig, z int, letters string, lengths ...int) {
	t.Helper()
	for d, n := range lengths {
		got, _ := r.Zone(d, z)
		if got.Length != n {
			t.Errorf("zone %d of drive %d has %d blocks, want %d", z, d, got.Length, n)
		} else if n > 0 && !r.Off() && !r.Dead(d) {
			expect(t, r, d, zone.Command{Kind: zone.Read, Zone: z, N: n}, "", fill(letters[:n]), 0, api.OK)
		}
	}
}

func expectPower(t *testing.T, r *Rig, off bool, count int) {
	t.Helper()
	if r.Off() != off || r.Count() != count {
		t.Errorf("off is %v and %d commands are counted, want %v and %d", r.Off(), r.Count(), off, count)
	}
}

// P8.1: which geometries and numbers of drives there are.
func TestNew(t *testing.T) {
	geometries := []api.Geometry{small, {}}
	for _, n := range append([]int{0, 1, 2, 3, 4, 5, 16, 17, 64, 65, 256, 257}, wild...) {
		geometries = append(geometries,
			api.Geometry{Drives: n, Zones: 5, Blocks: 4, Open: 1, Active: 1},
			api.Geometry{Drives: 3, Zones: n, Blocks: 4, Open: 1, Active: 1},
			api.Geometry{Drives: 3, Zones: 5, Blocks: n, Open: 1, Active: 1},
			api.Geometry{Drives: 3, Zones: 5, Blocks: 4, Open: n, Active: 5},
			api.Geometry{Drives: 3, Zones: 5, Blocks: 4, Open: 1, Active: n})
	}
	for _, g := range geometries {
		for _, drives := range append([]int{0, 1, 2, 3, 16, 17, 18}, wild...) {
			r, e := New(g, drives)
			if !geom.Good(g) || drives < 1 || drives > 17 {
				if r != nil || e != api.ErrArg {
					t.Errorf("New(%+v, %d): %v, %d", g, drives, r, e)
				}
				continue
			}
			if r == nil || e != api.OK || r.Drives() != drives || r.Blocks() != g.Blocks || r.Off() || r.Count() != 0 {
				t.Fatalf("New(%+v, %d): %+v, %d", g, drives, r, e)
			}
			expectAlike(t, r, g)
		}
	}
}

// expectAlike examines the number of zones of each drive, and that none is dead.
func expectAlike(t *testing.T, r *Rig, g api.Geometry) {
	t.Helper()
	for d := range r.Drives() {
		last, ok := r.Zone(d, g.Zones-1)
		_, more := r.Zone(d, g.Zones)
		if last != (zone.Zone{}) || !ok || more || r.Dead(d) {
			t.Fatalf("drive %d of %+v: %v, %v, %v", d, g, last, ok, more)
		}
	}
}

// P8.1: the drives have the Blocks, Open and Active of the geometry, each on its own.
func TestLimits(t *testing.T) {
	r := newRig(t, 2)
	expect(t, r, 1, appending(0, "abcdefg"), fill("abcdefg"), "", 0, api.ErrRange)
	for z := range 3 {
		expect(t, r, 1, zone.Command{Kind: zone.Open, Zone: z % 2}, "", "", 0, api.OK)
	}
	expect(t, r, 1, appending(2, "a"), fill("a"), "", 0, api.ErrLimit)
	expect(t, r, 1, zone.Command{Kind: zone.Close, Zone: 1}, "", "", 0, api.OK)
	appendTo(t, r, 1, 1, "a")
	appendTo(t, r, 1, 2, "a")
	expect(t, r, 1, appending(3, "a"), fill("a"), "", 0, api.ErrLimit)
	appendTo(t, r, 0, 3, "abcdef")
	if got, _ := r.Zone(0, 3); got.State != zone.Full {
		t.Errorf("zone 3 is %v", got)
	}
}

// P8.1: Zone of a drive or a zone that does not exist.
func TestNoZone(t *testing.T) {
	r := newRig(t, 2)
	for d := range 2 {
		for z := range 5 {
			appendTo(t, r, d, z, "abcdef")
		}
	}
	for _, n := range append([]int{2, 17}, wild...) {
		if got, ok := r.Zone(n, 0); got != (zone.Zone{}) || ok {
			t.Errorf("Zone(%d, 0) = %v, %v", n, got, ok)
		}
	}
	for _, n := range append([]int{5, 64}, wild...) {
		if got, ok := r.Zone(1, n); got != (zone.Zone{}) || ok {
			t.Errorf("Zone(1, %d) = %v, %v", n, got, ok)
		}
	}
}

// P8.2: each command goes to its drive alone, and returns what that does.
func TestDrives(t *testing.T) {
	r := newRig(t, 4)
	appendTo(t, r, 3, 1, "ab")
	appendTo(t, r, 0, 1, "abc")
	expect(t, r, 3, zone.Command{Kind: zone.Write, Zone: 1, At: 2, N: 1}, fill("c"), "", 2, api.OK)
	expect(t, r, 3, zone.Command{Kind: zone.Read, Zone: 1, At: 1, N: 2}, "", fill("bc"), 1, api.OK)
	expect(t, r, 2, zone.Command{Kind: zone.Read, Zone: 1, At: 0, N: 1}, "", "", 0, api.ErrRange)
	expect(t, r, 2, appending(1, "a"), fill("ab"), "", 0, api.ErrArg)
	expectFlush(t, r, 3, api.OK)
	r.Crash()
	expectBlocks(t, r, 1, "abc", 0, 0, 0, 3)
}

// P8.2: the errors in their order: no such drive, no power, a drive that has died, those of layer 7.
func TestErrors(t *testing.T) {
	bad := zone.Command{Kind: 9, Zone: -1}
	for _, off := range []bool{false, true} {
		for _, dead := range []bool{false, true} {
			r := newRig(t, 3)
			if dead {
				r.Kill(1)
			}
			if off {
				r.Cut(1)
				expectFlush(t, r, 0, api.ErrPower)
			}
			want, wantFlush := api.ErrArg, api.OK
			if dead {
				want, wantFlush = api.ErrDead, api.ErrDead
			}
			if off {
				want, wantFlush = api.ErrPower, api.ErrPower
			}
			expect(t, r, 1, bad, "x", "", 0, want)
			expectFlush(t, r, 1, wantFlush)
			for _, n := range append([]int{3, 17}, wild...) {
				expect(t, r, n, bad, "x", "", 0, api.ErrArg)
				expect(t, r, n, appending(0, "a"), fill("a"), "", 0, api.ErrArg)
				expect(t, r, n, zone.Command{Kind: zone.Read, N: 1}, "", "", 0, api.ErrArg)
				expectFlush(t, r, n, api.ErrArg)
			}
		}
	}
}

// P8.2: without power nothing is executed, not even a Read.
func TestNoPower(t *testing.T) {
	r := newRig(t, 2)
	appendTo(t, r, 0, 0, "ab")
	expectFlush(t, r, 0, api.OK)
	r.Cut(0)
	expectFlush(t, r, 1, api.ErrPower)
	for kind := -1; kind <= 9; kind++ {
		expect(t, r, 0, zone.Command{Kind: kind, N: 1}, "", "", 0, api.ErrPower)
		expect(t, r, 0, zone.Command{Kind: kind, N: 1}, fill("c"), "", 0, api.ErrPower)
	}
	expectFlush(t, r, 0, api.ErrPower)
	expectPower(t, r, true, 2)
	r.On()
	expectPower(t, r, false, 2)
	expectBlocks(t, r, 0, "ab", 2, 0)
}

// P8.2: a modifying command is one of every Kind other than Read, and a Flush, whatever it returns.
func TestModifying(t *testing.T) {
	r := newRig(t, 2)
	count := 0
	for kind := -1; kind <= 9; kind++ {
		for _, c := range []struct {
			zone.Command
			data string
		}{
			{zone.Command{Kind: kind, N: 1}, ""},
			{zone.Command{Kind: kind, N: 1}, fill("a")},
			{zone.Command{Kind: kind, N: 1}, "a"},
			{zone.Command{Kind: kind, Zone: 9, N: 1}, ""},
			{zone.Command{Kind: kind, Zone: 1, At: -1, N: -1}, ""},
		} {
			if kind != zone.Read {
				count++
			}
			r.Do(1, c.Command, c.data)
			expectPower(t, r, false, count)
		}
	}
	expectFlush(t, r, 1, api.OK)
	expectPower(t, r, false, count+1)
}

// P8.2: what is not modifying: a command without power, to a drive that does not exist, or to one that has died.
func TestNotModifying(t *testing.T) {
	r := newRig(t, 3)
	r.Kill(1)
	appendTo(t, r, 0, 0, "a")
	r.Cut(2, 1)
	for range 3 {
		for _, n := range []int{-1, 1, 3, 17} {
			r.Do(n, appending(0, "x"), fill("x"))
			r.Do(n, zone.Command{Kind: zone.Reset}, "")
			r.Flush(n)
		}
		expect(t, r, 0, zone.Command{Kind: zone.Read, N: 1}, "", fill("a"), 0, api.OK)
		expect(t, r, 0, zone.Command{Kind: zone.Read, N: 2}, "", "", 0, api.ErrRange)
		expect(t, r, 0, zone.Command{Kind: zone.Read, N: 1}, "x", "", 0, api.ErrArg)
		r.Zone(0, 0)
		r.Kill(1)
		r.Dead(0)
	}
	expectPower(t, r, false, 1)
	appendTo(t, r, 0, 0, "b")
	expect(t, r, 0, appending(0, "c"), fill("c"), "", 0, api.ErrPower)
	for range 3 {
		r.Flush(0)
		r.Do(0, appending(0, "x"), fill("x"))
	}
	expectPower(t, r, true, 2)
}

// P8.2: the power fails at the n-th modifying command, which is not executed and not counted.
func TestCut(t *testing.T) {
	for _, n := range []int{math.MinInt, -1, 0, 1, 2, 3, 7} {
		r := newRig(t, 3)
		expectFlush(t, r, 0, api.OK)
		r.Cut(n, 9)
		for i := 1; i < n; i++ {
			expectPower(t, r, false, i)
			if i%2 == 1 {
				appendTo(t, r, i%3, 0, "a")
			} else {
				expectFlush(t, r, i%3, api.OK)
			}
		}
		expectPower(t, r, false, max(n, 1))
		expect(t, r, 2, appending(4, "a"), fill("a"), "", 0, api.ErrPower)
		expectPower(t, r, true, max(n, 1))
		expectBlocks(t, r, 4, "", 0, 0, 0)
		r.On()
		for range 20 {
			expectFlush(t, r, 0, api.OK)
		}
		expectPower(t, r, false, max(n, 1)+20)
	}
}

// P8.2: every kind of modifying command is one at which the power can fail, and is then not executed.
func TestCutAtAny(t *testing.T) {
	for kind := 0; kind <= 9; kind++ {
		if kind == zone.Read {
			continue
		}
		for _, data := range []string{"", fill("b")} {
			r := newRig(t, 2)
			appendTo(t, r, 0, 0, "a")
			expectFlush(t, r, 0, api.OK)
			r.Cut(1, 9)
			expect(t, r, 0, zone.Command{Kind: kind, At: 1, N: 1}, data, "", 0, api.ErrPower)
			expectPower(t, r, true, 2)
			r.On()
			if got, _ := r.Zone(0, 0); got != (zone.Zone{State: zone.Closed, Length: 1}) {
				t.Errorf("after kind %d the zone is %v", kind, got)
			}
			expectBlocks(t, r, 0, "a", 1, 0)
		}
	}
	r := newRig(t, 1)
	appendTo(t, r, 0, 0, "ab")
	r.Cut(1, 1)
	expectFlush(t, r, 0, api.ErrPower)
	r.On()
	expectBlocks(t, r, 0, "ab", 1)
}

// P8.2: a later Cut replaces an earlier one, with its number and what is kept.
func TestLaterCut(t *testing.T) {
	for _, n := range [][2]int{{5, 2}, {2, 5}, {1, 3}} {
		r := newRig(t, 2)
		appendTo(t, r, 0, 0, "abcd")
		r.Cut(n[0], 1)
		r.Cut(n[1], 3)
		for range n[1] - 1 {
			expect(t, r, 1, zone.Command{Kind: zone.Reset}, "", "", 0, api.OK)
		}
		expect(t, r, 1, zone.Command{Kind: zone.Reset}, "", "", 0, api.ErrPower)
		r.On()
		expectBlocks(t, r, 0, "abcd", 3, 0)
	}
}

// P8.2: what Cut is given is neither changed nor retained, nor is what Crash is given.
func TestKeepIsOwn(t *testing.T) {
	r := newRig(t, 2)
	appendTo(t, r, 0, 0, "abcd")
	appendTo(t, r, 1, 0, "abcd")
	keep := []int{1, 3, 77, 78}[:2]
	r.Cut(1, keep...)
	keep[0], keep[1] = 0, 0
	expectFlush(t, r, 0, api.ErrPower)
	r.On()
	expectBlocks(t, r, 0, "abcd", 1, 3)
	if !slices.Equal(keep[:4], []int{0, 0, 77, 78}) {
		t.Errorf("Cut changed its list to %v", keep[:4])
	}
	keep[0], keep[1] = 3, 1
	r.Crash(keep...)
	if !slices.Equal(keep[:4], []int{3, 1, 77, 78}) {
		t.Errorf("Crash changed its list to %v", keep[:4])
	}
}

// P8.3: drive d loses power with keep from the index d modulo its length on, in a Cut and in a Crash.
func TestRotation(t *testing.T) {
	letters := "abcd"
	for _, keep := range [][]int{nil, {}, {2}, {1, 3}, {0, 1, 2}, {4, 0, 2, 1}, {-1, -2, -3, -4, -5}, {1, 2, 3, 4, 0, 7, 9}, {math.MinInt, 1, math.MaxInt}} {
		for _, drives := range []int{1, 3, 4, 17} {
			for _, cut := range []bool{false, true} {
				r := newRig(t, drives)
				for d := range drives {
					for z := range 3 {
						appendTo(t, r, d, z, letters)
					}
				}
				if cut {
					r.Cut(1, keep...)
					expectFlush(t, r, drives-1, api.ErrPower)
					expectPower(t, r, true, 3*drives)
					r.On()
				} else {
					r.Crash(keep...)
				}
				expectPower(t, r, false, 3*drives)
				for z := range 3 {
					expectBlocks(t, r, z, letters, remaining(keep, drives, z, len(letters))...)
				}
			}
		}
	}
}

// remaining returns how many of the blocks of zone z, none of which is durable, remain on each drive.
func remaining(keep []int, drives, z, blocks int) []int {
	l := make([]int, drives)
	for d := range l {
		if len(keep) == 0 {
			continue
		}
		n := keep[(d+z)%len(keep)]
		if n < 0 {
			n = -(n + 1)
		}
		l[d] = n % (blocks + 1)
	}
	return l
}

// P8.3: what was flushed, on its drive alone, remains; what remains is durable.
func TestDurable(t *testing.T) {
	r := newRig(t, 2)
	appendTo(t, r, 0, 0, "ab")
	appendTo(t, r, 1, 0, "ab")
	expectFlush(t, r, 0, api.OK)
	appendTo(t, r, 0, 0, "cd")
	appendTo(t, r, 1, 0, "cd")
	r.Crash(1)
	expectBlocks(t, r, 0, "abcd", 3, 1)
	r.Crash(0)
	expectBlocks(t, r, 0, "abcd", 3, 1)
}

// P8.3: a Crash also if the power is off, and On, after which no Cut is pending.
func TestCrashAndOn(t *testing.T) {
	for name, lose := range map[string]func(*Rig){
		"Crash": func(r *Rig) { r.Crash(9) },
		"On":    func(r *Rig) { r.On() },
	} {
		for _, off := range []bool{false, true} {
			r := newRig(t, 1)
			if off {
				r.Cut(1, 9)
				expectFlush(t, r, 0, api.ErrPower)
			}
			r.Cut(2, 9)
			lose(r)
			expectPower(t, r, false, 0)
			for range 9 {
				expectFlush(t, r, 0, api.OK)
			}
			if r.Off() {
				t.Errorf("after %s a Cut was pending", name)
			}
		}
	}
	r := newRig(t, 1)
	appendTo(t, r, 0, 0, "abc")
	r.On()
	expectBlocks(t, r, 0, "abc", 3)
	if got, _ := r.Zone(0, 0); got.State != zone.Implicit {
		t.Errorf("On changed the zone to %v", got)
	}
	r.Crash(2)
	expectBlocks(t, r, 0, "abc", 2)
}

// P8.3: the states of the zones after a loss of power, also while it is off.
func TestStates(t *testing.T) {
	r := newRig(t, 1)
	appendTo(t, r, 0, 0, "abcdef")
	appendTo(t, r, 0, 1, "ab")
	expect(t, r, 0, zone.Command{Kind: zone.Open, Zone: 2}, "", "", 0, api.OK)
	r.Cut(1, 5, 9, 0)
	expectFlush(t, r, 0, api.ErrPower)
	want := []zone.Zone{{State: zone.Closed, Length: 5}, {}, {}, {}, {}}
	for range 2 {
		for z := range want {
			if got, ok := r.Zone(0, z); got != want[z] || !ok {
				t.Errorf("zone %d is %v, %v", z, got, ok)
			}
		}
		r.Crash(3)
	}
}

// P8.2, P8.3: a drive that was killed, also while the power was off, is dead permanently; the others are as before.
func TestKill(t *testing.T) {
	r := newRig(t, 4)
	for d := range 4 {
		appendTo(t, r, d, 0, "abc")
	}
	r.Kill(1)
	r.Cut(1, 2)
	expectFlush(t, r, 0, api.ErrPower)
	r.Kill(2)
	for _, n := range append([]int{4, 17}, wild...) {
		r.Kill(n)
		if !r.Dead(n) {
			t.Errorf("drive %d is not dead", n)
		}
	}
	for range 3 {
		for d := range 4 {
			if r.Dead(d) != (d == 1 || d == 2) {
				t.Errorf("Dead(%d) is %v", d, r.Dead(d))
			}
		}
		r.Crash()
	}
	for _, d := range []int{1, 2} {
		expectFlush(t, r, d, api.ErrDead)
		expect(t, r, d, appending(0, "d"), fill("d"), "", 0, api.ErrDead)
		expect(t, r, d, zone.Command{Kind: zone.Read, N: 1}, "", "", 0, api.ErrDead)
	}
	expectBlocks(t, r, 0, "abc", 2, 2, 2, 2)
	appendTo(t, r, 0, 0, "c")
	appendTo(t, r, 3, 0, "c")
	expectPower(t, r, false, 6)
}

// P8.1 to P8.3: a nil *Rig.
func TestNil(t *testing.T) {
	var r *Rig
	for _, n := range append([]int{0, 1}, wild...) {
		for kind := -1; kind <= 9; kind++ {
			expect(t, r, n, zone.Command{Kind: kind, N: 1}, "", "", 0, api.ErrArg)
		}
		expectFlush(t, r, n, api.ErrArg)
		if got, ok := r.Zone(n, 0); got != (zone.Zone{}) || ok {
			t.Errorf("Zone(%d, 0) = %v, %v", n, got, ok)
		}
		r.Kill(n)
		r.Cut(n, 1, 2)
		r.Crash(n)
		if !r.Dead(n) {
			t.Errorf("Dead(%d) is false", n)
		}
	}
	r.Crash()
	r.On()
	expectPower(t, r, false, 0)
	if r.Drives() != 0 || r.Blocks() != 0 {
		t.Errorf("%d drives, %d blocks", r.Drives(), r.Blocks())
	}
}
