package volume

import (
	"slices"
	"strconv"
	"testing"

	"corbel/api"
	"corbel/array"
	"corbel/geom"
	"corbel/pick"
	"corbel/zone"
)

// scene is a call in which the power fails, after others.
type scene struct {
	name  string
	first func(x *run)
	then  func(x *run)
}

// least has two zones of 40 blocks, and a volume of 28; four has four drives, and three zones of 72 blocks.
var (
	least = geometries[0]
	four  = api.Geometry{Drives: 4, Zones: 6, Blocks: 24, Open: 1, Active: 4}
)

// some leaves blocks that are durable, and others that are not, in one zone.
func some(x *run) {
	x.write(0, 4)
	x.flush()
	x.write(2, 3)
	x.trim(1, 2)
}

// edge fills the current zone as far as a Write of six blocks has no room there.
func edge(x *run) {
	for i := 0; x.v.room() == 0 || x.v.room() >= 7; i++ {
		if i > 10*len(x.flat) {
			x.t.Fatal("never")
		}
		if i%3 == 2 {
			x.flush()
		}
		x.write(i*5%len(x.flat), 1)
	}
}

// brim writes the whole volume, and some of it once more, until there is no room but in the last Empty zone.
func brim(x *run) {
	size := len(x.flat)
	x.write(0, size)
	x.write(size/2, size-size/2)
	for edge(x); x.empty() > 1; edge(x) {
		x.write(size/3, 6)
	}
	x.flush()
	x.trim(0, 1)
}

// empty returns how many zones are Empty.
func (x *run) empty() int {
	_, n := pick.Empty(x.v.zones())
	return n
}

// torn leaves a group that is not complete at the end of the current zone.
func torn(x *run) {
	some(x)
	x.flush()
	x.tear(func() { x.write(3, 6) })
}

// unfinished leaves no zone Empty: the power has failed when so many groups of a zone, and some of one more, were copied to the
// last Empty one.
func unfinished(groups int) func(x *run) {
	return func(x *run) {
		brim(x)
		x.must(x.v.leave())
		l, data, e := x.v.live(x.v.victim())
		x.must(e)
		x.must(x.v.begin())
		g := packed(l, data)
		for i := range groups {
			x.must(x.v.add(g[i]))
		}
		x.tear(func() { x.v.add(g[groups]) })
	}
}

func (x *run) must(e api.Errno) {
	x.t.Helper()
	if e != api.OK {
		x.t.Fatal(e)
	}
}

// tear makes the power fail when some blocks of a group have been written, and keeps all of them.
func (x *run) tear(write func()) {
	x.cuts = true
	x.r.Cut(5, all)
	write()
	x.r.On()
	x.cuts = false
}

// degraded has a drive die before all else.
func degraded(first func(x *run)) func(x *run) {
	return func(x *run) {
		x.write(0, 3)
		x.kill(1)
		first(x)
	}
}

func scenes() []scene {
	write := func(x *run) { x.write(3, 8) }
	trim := func(x *run) { x.trim(0, 14) }
	reopen := func(x *run) { x.reopen() }
	return []scene{
		{"Write", some, write},
		{"WriteDegraded", degraded(some), write},
		{"WriteOver", edge, write},
		{"WriteCleaning", brim, write},
		{"WriteCleaningDegraded", degraded(brim), write},
		{"Trim", some, trim},
		{"TrimCleaning", brim, trim},
		{"Flush", some, (*run).flush},
		{"Clean", brim, (*run).clean},
		{"CleanTwice", brim, func(x *run) { x.clean(); x.clean() }},
		{"Rebuild", degraded(some), func(x *run) { x.rebuild(); x.rebuild() }},
		{"OpenTorn", torn, reopen},
		{"OpenUnfinished", unfinished(2), reopen},
		{"OpenUnfinishedTorn", unfinished(0), reopen},
		{"OpenUnfinishedDegraded", degraded(unfinished(2)), reopen},
	}
}

// keeps returns what is kept: nothing, all, one drive's zone alone (as far as they are told apart), and all but one.
func keeps(g api.Geometry) [][]int {
	none := make([]int, g.Drives+g.Zones)
	full := slices.Repeat([]int{all}, len(none))
	l := [][]int{none, full}
	for i := range none {
		one, others := slices.Clone(none), slices.Clone(full)
		one[i], others[i] = all, 0
		l = append(l, one, others)
	}
	return l
}

// play lets the power fail at a command of the scene, and once more when the volume is opened (never, if that is 0), whereupon
// a drive dies (none, if that is -1). It reports whether the power failed each time.
func (s scene) play(t *testing.T, g api.Geometry, at int, keep []int, again int, keepAgain []int, dies int) (bool, bool) {
	t.Helper()
	x := newRun(t, g, 1)
	s.first(x)
	x.cuts = true
	x.r.Cut(at, keep...)
	s.then(x)
	failed, failedAgain := x.r.Off(), false
	x.r.On()
	if again > 0 {
		x.r.Cut(again, keepAgain...)
		failedAgain = !x.reopen()
		x.r.On()
	}
	if dies >= 0 {
		x.kill(dies)
	}
	if !x.reopen() {
		t.Fatal("Open: the power failed")
	}
	// What was found is durable, whichever drive dies, and there is room to go on.
	x.kill((at + again) % g.Drives)
	x.r.Crash(0)
	x.reopen()
	x.cuts = false
	x.write(at%20, 8)
	x.read(0, len(x.flat))
	x.flush()
	x.r.Crash(0)
	x.reopen()
	return failed, failedAgain
}

// P22.4: the power fails at each command of a call, with anything kept, whereupon any drive dies.
func TestEachFailure(t *testing.T) {
	for g, every := range map[api.Geometry]int{least: 1, four: 5} { // of four some of what can be kept each time
		l := keeps(g)
		for _, s := range scenes() {
			t.Run(s.name+strconv.Itoa(g.Drives), func(t *testing.T) {
				t.Parallel()
				for at, more := 1, true; more; at++ {
					more = false
					for i := at % every; i < len(l); i += every {
						failed, _ := s.play(t, g, at, l[i], 0, nil, (at+i)%(g.Drives+1)-1)
						more = more || failed
					}
				}
			})
		}
	}
}

// P22.4: it fails once more at each command with which the volume is opened.
func TestEachFailureOfOpen(t *testing.T) {
	for _, s := range scenes() {
		t.Run(s.name, func(t *testing.T) {
			t.Parallel()
			l := keeps(least)
			for at, some := 1, true; some; at++ {
				some = false
				keep := l[at*5%len(l)]
				for again, more := 1, true; more; again++ {
					failed, failedAgain := s.play(t, least, at, keep, again, []int{again % 2 * all}, (again+at)%(least.Drives+1)-1)
					some, more = some || failed, failedAgain
				}
			}
		})
	}
}

// P22.4: the scenes are what they are said to be.
func TestScenes(t *testing.T) {
	for _, g := range []api.Geometry{least, four} {
		x := newRun(t, g, 1)
		brim(x)
		if x.empty() != 1 || x.v.room() >= 7 {
			t.Errorf("brim: %d zones are Empty, there is room for %d blocks", x.empty(), x.v.room())
		}
		for _, groups := range []int{0, 2} {
			x = newRun(t, g, 1)
			brim(x)
			last, _ := pick.Empty(x.v.zones())
			x = newRun(t, g, 1)
			unfinished(groups)(x)
			a := openArray(x)
			for z := range geom.Zones(g) {
				now, _ := a.Zone(z)
				if now.Length == 0 || z == last && (now.Length <= 7*groups || now.Length >= 7*groups+7) {
					t.Errorf("%d groups and some of one more, zone %d: %+v", groups, z, now)
				}
			}
			x.reopen()
			if x.empty() != 1 {
				t.Errorf("%d groups and some of one more: %d zones are Empty then", groups, x.empty())
			}
		}
		x = newRun(t, g, 1)
		torn(x)
		if now, _ := openArray(x).Zone(0); now != (zone.Zone{State: zone.Closed, Length: 13}) {
			t.Errorf("torn: %+v", now)
		}
		x.reopen()
		if now, _ := x.v.array.Zone(0); now != (zone.Zone{State: zone.Full, Length: 13}) {
			t.Errorf("torn, and opened: %+v", now)
		}
	}
}

func openArray(x *run) *array.Array {
	x.t.Helper()
	a, e := array.Open(x.r, x.g)
	x.must(e)
	return a
}
