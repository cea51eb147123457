package volume

import (
	"os"
	"strconv"
	"testing"

	"corbel/api"
)

// geometries are valid, some of them with as few zones, blocks, or active zones, as possible.
var geometries = []api.Geometry{
	{Drives: 3, Zones: 5, Blocks: 20, Open: 1, Active: 4},
	{Drives: 3, Zones: 6, Blocks: 26, Open: 2, Active: 6},
	{Drives: 4, Zones: 7, Blocks: 27, Open: 2, Active: 5},
	{Drives: 5, Zones: 6, Blocks: 25, Open: 3, Active: 6},
	{Drives: 3, Zones: 10, Blocks: 35, Open: 1, Active: 4},
	{Drives: 7, Zones: 5, Blocks: 24, Open: 2, Active: 5},
	{Drives: 16, Zones: 5, Blocks: 33, Open: 1, Active: 4},
	{Drives: 3, Zones: 12, Blocks: 41, Open: 2, Active: 5},
}

// all is what keeps all of up to 23 blocks: one less than what each number up to 24 divides.
const all = 5354228880 - 1

// keep returns what a power failure keeps: nothing, or all, or anything, of each drive and zone.
func (x *run) keep() []int {
	l := make([]int, x.random.Intn(8))
	for i := range l {
		l[i] = []int{0, all, x.random.Intn(40)}[x.random.Intn(3)]
	}
	return l
}

// blocks returns a range of blocks, mostly one that is permitted.
func (x *run) blocks() (int, int) {
	size := len(x.flat)
	n := 1 + x.random.Intn(3)
	switch x.random.Intn(12) {
	case 0:
		n = x.random.Intn(size + 2)
	case 1, 2:
		n = 1 + x.random.Intn(20)
	case 3:
		return x.random.Intn(size+4) - 2, x.random.Intn(4) - 1
	}
	return x.random.Intn(max(1, size-n+1)), n
}

func (x *run) step() {
	x.t.Helper()
	switch n := x.random.Intn(200); {
	case n < 10:
		x.flush()
	case n < 20:
		x.clean()
	case n < 24:
		x.kill(x.random.Intn(x.g.Drives + 1))
	case n < 40:
		x.rebuild()
	case n < 44 && x.cuts:
		x.r.Crash(x.keep()...)
		x.recover()
	case n < 60 && x.cuts:
		x.r.Cut(1+x.random.Intn(120), x.keep()...)
	case n < 90:
		x.read(x.blocks())
	case n < 110:
		x.trim(x.blocks())
	default:
		block, n := x.blocks()
		x.write(block, max(n, 0))
	}
	if x.r.Off() {
		x.recover()
	}
}

// recover opens the volume until the power does not fail meanwhile. A drive may die before.
func (x *run) recover() {
	x.t.Helper()
	for done := false; !done; {
		x.r.On()
		if x.random.Intn(6) == 0 {
			x.kill(x.random.Intn(x.g.Drives + 1))
		}
		if x.random.Intn(2) == 0 {
			x.r.Cut(1+x.random.Intn(80), x.keep()...)
		}
		done = x.reopen()
	}
}

// seeds returns how many mixtures are tried; CORBEL_SEEDS asks for more.
func seeds(least int) int {
	n, _ := strconv.Atoi(os.Getenv("CORBEL_SEEDS"))
	return max(n, least)
}

// P22.2, P22.3: long mixtures of all calls, in which drives die and are rebuilt, yield what a flat sequence of blocks does.
func TestFlat(t *testing.T) {
	for seed := range seeds(60) {
		t.Run(strconv.Itoa(seed), func(t *testing.T) {
			t.Parallel()
			x := newRun(t, geometries[seed%len(geometries)], int64(seed))
			for range 300 {
				x.step()
			}
			x.read(0, len(x.flat))
			x.state()
		})
	}
}

// P22.4: the same with power failures at any command, also while the volume is opened, of which anything is kept.
func TestPowerFailures(t *testing.T) {
	for seed := range seeds(200) {
		t.Run(strconv.Itoa(seed), func(t *testing.T) {
			t.Parallel()
			x := newRun(t, geometries[seed%len(geometries)], int64(seed))
			x.cuts = true
			for range 300 {
				x.step()
			}
		})
	}
}
