package array

import (
	"slices"
	"strconv"
	"testing"

	"corbel/api"
	"corbel/geom"
)

// scene is a call in which the power fails, after others.
type scene struct {
	name  string
	g     api.Geometry
	first func(x *run)
	then  func(x *run)
}

var least = api.Geometry{Drives: 3, Zones: 5, Blocks: 20, Open: 1, Active: 4}

// four has four drives: a row has three blocks, and up to two notes.
var four = api.Geometry{Drives: 4, Zones: 5, Blocks: 21, Open: 2, Active: 5}

// prepare leaves zone 0 with blocks that are durable, and others that are not.
func prepare(x *run) {
	x.write(0, 5)
	x.flush()
	x.write(0, 1)
	x.write(0, 2)
}

// crowd fills a log, so that it soon begins anew.
func crowd(x *run) {
	prepare(x)
	for x.a.logs[1].Left() >= 2 && x.a.logs[2].Left() >= 2 {
		x.write(0, 1)
	}
}

// tooMuch leaves a slot with more blocks of zone 0 than can be read, so that the zone is moved when the array is opened.
func tooMuch(x *run) {
	prepare(x)
	x.write(0, 3)
	x.r.Crash(0, 0, 0, 0, all)
}

// noParity leaves a full row of zone 0 without its parity, of which a note tells as far as the row was flushed.
func noParity(x *run) {
	x.write(0, 2*x.g.Drives-1)
	x.flush()
	x.write(0, x.g.Drives-2)
	x.r.Crash(0, 0, all, all, 0)
}

// halfNoted leaves a row of zone 0 with two blocks, of which the first one was flushed, and room for no further note in the log
// that has their notes. It is for four drives.
func halfNoted(x *run) {
	x.write(0, 4)
	x.flush()
	for x.a.logs[1].Left() >= 4 {
		x.write(1, 1)
	}
	x.write(0, 1)
}

// lose makes a drive die and be detected.
func lose(d int) func(x *run) {
	return func(x *run) {
		prepare(x)
		x.kill(d)
		x.flush()
		x.write(0, 2)
	}
}

// rebuilt has executed some steps of rebuilding.
func rebuilt(d, steps int) func(x *run) {
	return func(x *run) {
		lose(d)(x)
		for range steps {
			x.rebuild()
		}
		x.write(0, 1)
	}
}

func scenes(g api.Geometry) []scene {
	write := func(x *run) { x.write(0, 4) }
	reset := func(x *run) { x.reset(0) }
	finish := func(x *run) { x.finish(0) }
	open := func(x *run) { x.reopen() }
	l := []scene{
		{"Write", g, prepare, write},
		{"WriteAtFullLogs", g, crowd, write},
		{"WriteDegraded", g, lose(1), write},
		{"Fill", g, prepare, func(x *run) { x.write(0, geom.Capacity(g)-8) }},
		{"Reset", g, prepare, reset},
		{"ResetAtFullLogs", g, crowd, reset},
		{"ResetDegraded", g, lose(2), reset},
		{"Finish", g, prepare, finish},
		{"FinishAtFullLogs", g, crowd, finish},
		{"Flush", g, prepare, (*run).flush},
		{"OpenMove", g, tooMuch, open},
		{"OpenParity", g, noParity, open},
		{"Rebuild", g, lose(1), (*run).rebuild},
		{"RebuildFirstZone", g, rebuilt(1, 1), (*run).rebuild},
		{"RebuildLastZone", g, rebuilt(0, 3), (*run).rebuild},
		{"ResetWhileRebuilding", g, rebuilt(2, 2), reset},
	}
	if g == four {
		l = append(l, scene{"WriteOther", g, halfNoted, func(x *run) {
			for i := 0; i < 12 && !x.r.Off(); i++ {
				x.write(1, 1)
			}
		}})
	}
	return l
}

// keeps returns what is kept: nothing, all, one drive's zone alone (as far as they are told apart), and all but one.
func keeps(g api.Geometry) [][]int {
	none := make([]int, g.Drives+g.Zones)
	full := slices.Repeat([]int{all}, len(none))
	l := [][]int{none, full}
	for i := range none {
		one, others := slices.Clone(none), slices.Clone(full)
		one[i], others[i] = all, 0
		l = append(l, one, others)
	}
	return l
}

// play lets the power fail at a command of the scene, and once more when the array is opened (never, if that is 0), whereupon
// a drive dies (none, if that is -1). It reports whether the power failed each time.
func (s scene) play(t *testing.T, at int, keep []int, again int, keepAgain []int, dies int) (bool, bool) {
	t.Helper()
	x := newRun(t, s.g, 1)
	s.first(x)
	x.cuts = true
	x.r.Cut(at, keep...)
	s.then(x)
	failed, failedAgain := x.r.Off(), false
	x.r.On()
	if again > 0 {
		x.r.Cut(again, keepAgain...)
		failedAgain = !x.reopen()
		x.r.On()
	}
	if dies >= 0 {
		x.kill(dies)
	}
	if !x.reopen() {
		t.Fatal("Open: the power failed")
	}
	// What was found is durable, whichever drive dies.
	x.kill((at + again) % s.g.Drives)
	x.r.Crash(0)
	x.reopen()
	return failed, failedAgain
}

// P17.4: the power fails at each command of a call, with anything kept, whereupon any drive dies.
func TestEachFailure(t *testing.T) {
	for _, s := range append(scenes(least), scenes(four)...) {
		t.Run(s.name+strconv.Itoa(s.g.Drives), func(t *testing.T) {
			t.Parallel()
			for at, some := 1, true; some; at++ {
				some = false
				for _, keep := range keeps(s.g) {
					for dies := -1; dies < s.g.Drives; dies++ {
						failed, _ := s.play(t, at, keep, 0, nil, dies)
						some = some || failed
					}
				}
			}
		})
	}
}

// P17.4: it fails once more at each command with which the array is opened.
func TestEachFailureOfOpen(t *testing.T) {
	for _, s := range scenes(least) {
		t.Run(s.name, func(t *testing.T) {
			t.Parallel()
			for at, some := 1, true; some; at++ {
				some = false
				for i, keep := range keeps(s.g) {
					for again, more := 1, true; more; again++ {
						failed, failedAgain := s.play(t, at, keep, again, []int{again % 2 * all}, (again+i)%(s.g.Drives+1)-1)
						some, more = some || failed, failedAgain
					}
				}
			}
		})
	}
}
