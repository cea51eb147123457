package array

import (
	"os"
	"strconv"
	"testing"

	"corbel/api"
	"corbel/geom"
	"corbel/zone"
)

// geometries are valid, some of them with as few blocks, or as few active zones, as possible.
var geometries = []api.Geometry{
	{Drives: 3, Zones: 5, Blocks: 20, Open: 1, Active: 4},
	{Drives: 3, Zones: 6, Blocks: 26, Open: 2, Active: 6},
	{Drives: 4, Zones: 7, Blocks: 27, Open: 2, Active: 5},
	{Drives: 5, Zones: 6, Blocks: 25, Open: 3, Active: 6},
	{Drives: 3, Zones: 10, Blocks: 35, Open: 1, Active: 4},
	{Drives: 7, Zones: 5, Blocks: 24, Open: 2, Active: 5},
	{Drives: 16, Zones: 5, Blocks: 33, Open: 1, Active: 4},
	{Drives: 3, Zones: 12, Blocks: 41, Open: 2, Active: 5},
}

// all is what keeps all of up to 23 blocks: one less than what each number up to 24 divides.
const all = 5354228880 - 1

// keep returns what a power failure keeps: nothing, or all, or anything, of each drive and zone.
func (x *run) keep() []int {
	l := make([]int, x.random.Intn(8))
	for i := range l {
		l[i] = []int{0, all, x.random.Intn(40)}[x.random.Intn(3)]
	}
	return l
}

// command returns a command, mostly one that is permitted.
func (x *run) command() (zone.Command, string) {
	z := x.random.Intn(len(x.zones))
	now, _ := x.flat.Zone(z)
	n := 1 + x.random.Intn(4)
	switch k := x.random.Intn(48); {
	case k < 3:
		return zone.Command{Kind: zone.Reset, Zone: z}, ""
	case k < 4:
		return zone.Command{Kind: zone.Finish, Zone: z}, ""
	case k < 7:
		return zone.Command{Kind: zone.Open + x.random.Intn(2), Zone: z}, ""
	case k < 13:
		at := x.random.Intn(now.Length + 1)
		return zone.Command{Kind: zone.Read, Zone: z, At: at, N: x.random.Intn(now.Length - at + 2)}, ""
	case k < 16:
		c := zone.Command{Kind: x.random.Intn(10) - 1, Zone: x.random.Intn(len(x.zones)+2) - 1, At: n - 2, N: x.random.Intn(5) - 1}
		return c, x.data(x.random.Intn(3))
	case k < 19:
		n = max(1, geom.Capacity(x.g)-now.Length)
	case k < 25:
		n = 1 + x.random.Intn(3*x.g.Drives)
	}
	if x.random.Intn(2) == 0 {
		return zone.Command{Kind: zone.Write, Zone: z, At: now.Length, N: n}, x.data(n)
	}
	return zone.Command{Kind: zone.Append, Zone: z, N: n}, x.data(n)
}

func (x *run) step() {
	x.t.Helper()
	switch n := x.random.Intn(200); {
	case n < 20:
		x.flush()
	case n < 24:
		x.kill(x.random.Intn(x.g.Drives + 1))
	case n < 40:
		x.rebuild()
	case n < 44 && x.cuts:
		x.r.Crash(x.keep()...)
		x.recover()
	case n < 60 && x.cuts:
		x.r.Cut(1+x.random.Intn(60), x.keep()...)
	default:
		x.execute(x.command())
	}
	if x.r.Off() {
		x.recover()
	}
	x.same()
}

// recover opens the array until the power does not fail meanwhile. A drive may die before.
func (x *run) recover() {
	x.t.Helper()
	for done := false; !done; {
		x.r.On()
		if x.random.Intn(6) == 0 {
			x.kill(x.random.Intn(x.g.Drives + 1))
		}
		if x.random.Intn(2) == 0 {
			x.r.Cut(1+x.random.Intn(60), x.keep()...)
		}
		done = x.reopen()
	}
}

// seeds returns how many mixtures are tried; CORBEL_SEEDS asks for more.
func seeds(least int) int {
	n, _ := strconv.Atoi(os.Getenv("CORBEL_SEEDS"))
	return max(n, least)
}

// P17.2, P17.3, P17.5: long mixtures of all calls, in which drives die and are rebuilt, yield what one drive does.
func TestLikeOneDrive(t *testing.T) {
	for seed := range seeds(60) {
		x := newRun(t, geometries[seed%len(geometries)], int64(seed))
		for range 400 {
			x.step()
		}
	}
}

// P17.4, P17.5: the same with power failures at any command, also while the array is opened, of which anything is kept.
func TestPowerFailures(t *testing.T) {
	for seed := range seeds(200) {
		t.Run(strconv.Itoa(seed), func(t *testing.T) {
			t.Parallel()
			x := newRun(t, geometries[seed%len(geometries)], int64(seed))
			x.cuts = true
			for range 400 {
				x.step()
			}
		})
	}
}
