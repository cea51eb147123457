package zone

import (
	"math"
	"slices"
	"testing"

	"corbel/api"
)

// wild are numbers that are no index and no number of anything.
var wild = []int{-1, -2, math.MinInt, math.MinInt + 1, 1 << 20, 1 << 32, math.MaxInt - 1, math.MaxInt}

func machine(t *testing.T, zones, blocks, open, active int) *Machine {
	t.Helper()
	m, e := New(zones, blocks, open, active)
	if e != api.OK || m == nil {
		t.Fatalf("New(%d, %d, %d, %d): %d", zones, blocks, open, active, e)
	}
	return m
}

// do executes commands that are to return OK.
func do(t *testing.T, m *Machine, l ...Command) {
	t.Helper()
	for _, c := range l {
		if _, e := m.Do(c); e != api.OK {
			t.Fatalf("%+v: %d", c, e)
		}
	}
}

// expect executes a command, of which the result is to be that, and no zone is to change if it is an error.
func expect(t *testing.T, m *Machine, c Command, at int, want api.Errno) {
	t.Helper()
	before := all(m)
	if got, e := m.Do(c); got != at || e != want {
		t.Errorf("%+v = %d, %d, want %d, %d", c, got, e, at, want)
	}
	if want != api.OK && !slices.Equal(all(m), before) {
		t.Errorf("%+v changed %v to %v", c, before, all(m))
	}
}

// all returns the zones of m.
func all(m *Machine) []Zone {
	var l []Zone
	for {
		z, ok := m.Get(len(l))
		if !ok {
			return l
		}
		l = append(l, z)
	}
}

func expectZones(t *testing.T, m *Machine, want ...Zone) {
	t.Helper()
	if got := all(m); !slices.Equal(got, want) {
		t.Errorf("the zones are %v, want %v", got, want)
	}
	open, active := 0, 0
	for _, z := range want {
		switch z.State {
		case Implicit, Explicit:
			open++
			active++
		case Closed:
			active++
		}
	}
	if o, a := m.Counts(); o != open || a != active {
		t.Errorf("Counts are %d and %d, want %d and %d", o, a, open, active)
	}
}

// The numbers of states and kinds are the document's.
func TestNumbers(t *testing.T) {
	if !slices.Equal([]int{Empty, Implicit, Explicit, Closed, Full}, []int{0, 1, 2, 3, 4}) {
		t.Error("states")
	}
	if !slices.Equal([]int{Write, Append, Reset, Finish, Open, Close, Read}, []int{1, 2, 3, 4, 5, 6, 7}) {
		t.Error("kinds")
	}
}

// P5.1: a new machine has so many zones, all Empty.
func TestNew(t *testing.T) {
	for _, zones := range []int{1, 2, 63, 64} {
		for _, blocks := range []int{1, 2, 4095, 4096} {
			m := machine(t, zones, blocks, 1, zones)
			expectZones(t, m, make([]Zone, zones)...)
			expect(t, m, Command{Write, zones - 1, 0, blocks + 1}, 0, api.ErrRange)
			expect(t, m, Command{Write, zones - 1, 0, blocks}, 0, api.OK)
		}
	}
	machine(t, 64, 4096, 64, 64)
	machine(t, 5, 3, 1, 1)
	machine(t, 5, 3, 4, 4)
}

// P5.1: ErrArg for each number out of its range.
func TestNewWrong(t *testing.T) {
	for _, c := range [][4]int{
		{0, 4, 1, 1}, {65, 4, 1, 1}, {0, 4, 0, 0}, {0, 4, 1, 0},
		{2, 0, 1, 1}, {2, 4097, 1, 1}, {2, -4, 1, 1},
		{2, 4, 0, 1}, {2, 4, 0, 0}, {2, 4, -1, 1}, {2, 4, -2, -1}, {2, 4, 2, 1},
		{2, 4, 1, 3}, {2, 4, 3, 3}, {2, 4, 1, 0}, {64, 4, 65, 65}, {64, 4, 1, 65},
	} {
		if m, e := New(c[0], c[1], c[2], c[3]); m != nil || e != api.ErrArg {
			t.Errorf("New%v = %v, %d", c, m, e)
		}
	}
	for _, n := range wild {
		for i := range 4 {
			c := [4]int{3, 4, 2, 3}
			c[i] = n
			if m, e := New(c[0], c[1], c[2], c[3]); m != nil || e != api.ErrArg {
				t.Errorf("New%v = %v, %d", c, m, e)
			}
		}
	}
}

// P5.1: Get has the zones from 0 on, and no others.
func TestGet(t *testing.T) {
	m := machine(t, 3, 4, 3, 3)
	do(t, m, Command{Append, 2, 0, 3}, Command{Open, 1, 0, 0})
	for z, want := range []Zone{{Empty, 0}, {Explicit, 0}, {Implicit, 3}} {
		if got, ok := m.Get(z); got != want || !ok {
			t.Errorf("zone %d is %v, %v", z, got, ok)
		}
	}
	for _, z := range append([]int{3, 4, 64}, wild...) {
		if got, ok := m.Get(z); got != (Zone{}) || ok {
			t.Errorf("zone %d is %v, %v", z, got, ok)
		}
	}
}

// P5.1: Counts are of the open zones and of the open and closed ones.
func TestCounts(t *testing.T) {
	m := machine(t, 6, 4, 3, 5)
	do(t, m,
		Command{Append, 0, 0, 1}, Command{Close, 0, 0, 0},
		Command{Append, 1, 0, 4},
		Command{Append, 2, 0, 2},
		Command{Open, 3, 0, 0},
		Command{Append, 4, 0, 1}, Command{Close, 4, 0, 0})
	if open, active := m.Counts(); open != 2 || active != 4 {
		t.Errorf("Counts are %d and %d", open, active)
	}
	expectZones(t, m, Zone{Closed, 1}, Zone{Full, 4}, Zone{Implicit, 2}, Zone{Explicit, 0}, Zone{Closed, 1}, Zone{})
}

// P5.2: the document's example.
func TestExample(t *testing.T) {
	m := machine(t, 2, 4, 1, 2)
	do(t, m, Command{Write, 0, 0, 1}, Command{Write, 1, 0, 1})
	expectZones(t, m, Zone{Closed, 1}, Zone{Implicit, 1})
	m = machine(t, 2, 4, 1, 2)
	do(t, m, Command{Open, 0, 0, 0})
	expect(t, m, Command{Write, 1, 0, 1}, 0, api.ErrLimit)
	expectZones(t, m, Zone{Explicit, 0}, Zone{})
}

// P5.2: it is the Implicit zone with the least number that makes room, whichever was opened first.
func TestLeastImplicit(t *testing.T) {
	m := machine(t, 5, 4, 3, 5)
	do(t, m, Command{Append, 3, 0, 1}, Command{Open, 0, 0, 0}, Command{Append, 1, 0, 1})
	do(t, m, Command{Append, 4, 0, 1})
	expectZones(t, m, Zone{Explicit, 0}, Zone{Closed, 1}, Zone{}, Zone{Implicit, 1}, Zone{Implicit, 1})
	do(t, m, Command{Open, 1, 0, 0})
	expectZones(t, m, Zone{Explicit, 0}, Zone{Explicit, 1}, Zone{}, Zone{Closed, 1}, Zone{Implicit, 1})
	do(t, m, Command{Write, 3, 1, 1})
	expectZones(t, m, Zone{Explicit, 0}, Zone{Explicit, 1}, Zone{}, Zone{Implicit, 2}, Zone{Closed, 1})
	do(t, m, Command{Open, 4, 0, 0})
	for _, c := range []Command{{Append, 2, 0, 1}, {Append, 3, 0, 1}, {Write, 3, 2, 1}, {Open, 2, 0, 0}, {Open, 3, 0, 0}} {
		expect(t, m, c, 0, api.ErrLimit)
	}
	expectZones(t, m, Zone{Explicit, 0}, Zone{Explicit, 1}, Zone{}, Zone{Closed, 2}, Zone{Explicit, 1})
}

// P5.2: an open zone needs no room, also where all others are open as well.
func TestOpenNeedsNothing(t *testing.T) {
	m := machine(t, 3, 4, 2, 2)
	do(t, m, Command{Append, 0, 0, 1}, Command{Append, 1, 0, 1})
	expect(t, m, Command{Append, 0, 0, 1}, 1, api.OK)
	expect(t, m, Command{Write, 1, 1, 1}, 1, api.OK)
	expectZones(t, m, Zone{Implicit, 2}, Zone{Implicit, 2}, Zone{})
	do(t, m, Command{Open, 0, 0, 0}, Command{Open, 1, 0, 0}, Command{Open, 0, 0, 0})
	expect(t, m, Command{Append, 0, 0, 1}, 2, api.OK)
	expectZones(t, m, Zone{Explicit, 3}, Zone{Explicit, 2}, Zone{})
}

// P5.2: the limit of active zones holds for an Empty zone alone, and comes ahead of any closing.
func TestActiveLimit(t *testing.T) {
	m := machine(t, 3, 4, 1, 2)
	do(t, m, Command{Append, 0, 0, 1}, Command{Append, 1, 0, 1})
	for _, c := range []Command{{Append, 2, 0, 1}, {Write, 2, 0, 1}, {Append, 2, 0, 4}, {Open, 2, 0, 0}} {
		expect(t, m, c, 0, api.ErrLimit)
	}
	expectZones(t, m, Zone{Closed, 1}, Zone{Implicit, 1}, Zone{})
	expect(t, m, Command{Append, 0, 0, 1}, 1, api.OK)
	expectZones(t, m, Zone{Implicit, 2}, Zone{Closed, 1}, Zone{})
	do(t, m, Command{Finish, 1, 0, 0})
	expect(t, m, Command{Append, 2, 0, 1}, 0, api.OK)
	expectZones(t, m, Zone{Closed, 2}, Zone{Full, 1}, Zone{Implicit, 1})
}

// P5.2: a write of a whole zone opens it too, though it is Full at once.
func TestWholeZone(t *testing.T) {
	for _, kind := range []int{Write, Append} {
		m := machine(t, 3, 4, 1, 2)
		do(t, m, Command{Append, 1, 0, 1}, Command{kind, 2, 0, 4})
		expectZones(t, m, Zone{}, Zone{Closed, 1}, Zone{Full, 4})
		m = machine(t, 3, 4, 1, 2)
		do(t, m, Command{Open, 1, 0, 0})
		expect(t, m, Command{kind, 2, 0, 4}, 0, api.ErrLimit)
		do(t, m, Command{kind, 1, 0, 4})
		expectZones(t, m, Zone{}, Zone{Full, 4}, Zone{})
	}
}

// P5.2: after a loss of power more zones than permitted may be active. That is no room for another one.
func TestMoreActiveThanPermitted(t *testing.T) {
	m := machine(t, 4, 4, 1, 1)
	do(t, m, Command{Append, 0, 0, 4}, Command{Append, 1, 0, 4}, Command{Append, 2, 0, 4})
	m.Lost([]int{1, 2, 3})
	expectZones(t, m, Zone{Closed, 1}, Zone{Closed, 2}, Zone{Closed, 3}, Zone{})
	expect(t, m, Command{Append, 3, 0, 1}, 0, api.ErrLimit)
	expect(t, m, Command{Open, 3, 0, 0}, 0, api.ErrLimit)
	expect(t, m, Command{Append, 1, 0, 1}, 2, api.OK)
	expect(t, m, Command{Append, 2, 0, 1}, 3, api.OK)
	expectZones(t, m, Zone{Closed, 1}, Zone{Closed, 3}, Zone{Full, 4}, Zone{})
}

// P5.3: ErrArg for other kinds, ahead of ErrRange for other zones, ahead of all else.
func TestDoWrong(t *testing.T) {
	m := machine(t, 2, 4, 1, 2)
	do(t, m, Command{Append, 0, 0, 4})
	for _, kind := range append([]int{0, 8, 9}, wild...) {
		expect(t, m, Command{kind, 0, 0, 1}, 0, api.ErrArg)
		expect(t, m, Command{kind, 2, 0, 1}, 0, api.ErrArg)
		expect(t, m, Command{kind, -1, -1, -1}, 0, api.ErrArg)
	}
	for kind := Write; kind <= Read; kind++ {
		for _, z := range append([]int{2, 3, 64}, wild...) {
			expect(t, m, Command{kind, z, 0, 1}, 0, api.ErrRange)
			expect(t, m, Command{kind, z, 4, 1}, 0, api.ErrRange)
		}
	}
}

// P5.3: Write at the Length.
func TestWrite(t *testing.T) {
	m := machine(t, 2, 4, 2, 2)
	expect(t, m, Command{Write, 0, 0, 1}, 0, api.OK)
	expect(t, m, Command{Write, 0, 1, 2}, 1, api.OK)
	expectZones(t, m, Zone{Implicit, 3}, Zone{})
	do(t, m, Command{Open, 1, 0, 0})
	expect(t, m, Command{Write, 1, 0, 3}, 0, api.OK)
	expectZones(t, m, Zone{Implicit, 3}, Zone{Explicit, 3})
	expect(t, m, Command{Write, 0, 3, 1}, 3, api.OK)
	expect(t, m, Command{Write, 1, 3, 1}, 3, api.OK)
	expectZones(t, m, Zone{Full, 4}, Zone{Full, 4})
}

// P5.3: the errors of Write, the first of those that apply.
func TestWriteWrong(t *testing.T) {
	m := machine(t, 4, 4, 1, 2)
	do(t, m, Command{Append, 0, 0, 4}, Command{Append, 1, 0, 2}, Command{Finish, 1, 0, 0}, Command{Append, 2, 0, 2})
	for z, inRange := range []api.Errno{api.ErrFull, api.ErrFull, api.ErrState, api.ErrState} {
		for _, n := range append([]int{0}, wild...) {
			expect(t, m, Command{Write, z, 2, n}, 0, api.ErrRange)
			expect(t, m, Command{Write, z, 0, n}, 0, api.ErrRange)
		}
		for _, at := range append([]int{4}, wild...) {
			expect(t, m, Command{Write, z, at, 1}, 0, api.ErrRange)
			expect(t, m, Command{Write, z, at, math.MaxInt}, 0, api.ErrRange)
		}
		for _, c := range [][2]int{{0, 5}, {1, 4}, {2, 3}, {3, 2}, {4, 0}} {
			expect(t, m, Command{Write, z, c[0], c[1]}, 0, api.ErrRange)
		}
		for _, c := range [][2]int{{1, 1}, {1, 3}, {3, 1}} {
			expect(t, m, Command{Write, z, c[0], c[1]}, 0, inRange)
		}
	}
	expect(t, m, Command{Write, 0, 0, 1}, 0, api.ErrFull)
	expect(t, m, Command{Write, 1, 2, 1}, 0, api.ErrFull)
	expect(t, m, Command{Write, 2, 0, 1}, 0, api.ErrState)
	do(t, m, Command{Open, 2, 0, 0})
	expect(t, m, Command{Write, 3, 1, 1}, 0, api.ErrState)
	expect(t, m, Command{Write, 3, 0, 1}, 0, api.ErrLimit)
}

// P5.3: Append writes at the Length, whatever At is.
func TestAppend(t *testing.T) {
	m := machine(t, 2, 4, 2, 2)
	for i, at := range []int{0, -1, math.MaxInt} {
		expect(t, m, Command{Append, 0, at, 1}, i, api.OK)
	}
	expectZones(t, m, Zone{Implicit, 3}, Zone{})
	expect(t, m, Command{Append, 0, math.MinInt, 1}, 3, api.OK)
	do(t, m, Command{Open, 1, 0, 0})
	expect(t, m, Command{Append, 1, 3, 2}, 0, api.OK)
	expectZones(t, m, Zone{Full, 4}, Zone{Explicit, 2})
	expect(t, m, Command{Append, 1, 0, 2}, 2, api.OK)
	expectZones(t, m, Zone{Full, 4}, Zone{Full, 4})
}

// P5.3: the errors of Append. An N that no zone has room for comes ahead of ErrFull, one that this zone lacks room for behind it.
func TestAppendWrong(t *testing.T) {
	m := machine(t, 4, 4, 1, 2)
	do(t, m, Command{Append, 0, 0, 4}, Command{Append, 1, 0, 2}, Command{Finish, 1, 0, 0}, Command{Append, 2, 0, 2})
	for z := range 4 {
		for _, n := range append([]int{0, 5}, wild...) {
			expect(t, m, Command{Append, z, 2, n}, 0, api.ErrRange)
		}
	}
	for n := 1; n <= 4; n++ {
		expect(t, m, Command{Append, 0, 0, n}, 0, api.ErrFull)
		expect(t, m, Command{Append, 1, 0, n}, 0, api.ErrFull)
	}
	expect(t, m, Command{Append, 2, 0, 3}, 0, api.ErrRange)
	expect(t, m, Command{Append, 2, 0, 4}, 0, api.ErrRange)
	do(t, m, Command{Close, 2, 0, 0}, Command{Open, 3, 0, 0})
	expect(t, m, Command{Append, 2, 0, 3}, 0, api.ErrRange)
	expect(t, m, Command{Append, 2, 0, 2}, 0, api.ErrLimit)
}

// P5.3: Reset and Finish, in every state, ignore At and N.
func TestResetFinish(t *testing.T) {
	for state, zone := range states(t) {
		for _, n := range append([]int{0, 1}, wild...) {
			m := inState(t, state)
			expect(t, m, Command{Reset, 1, n, n}, 0, api.OK)
			expectZones(t, m, Zone{Implicit, 1}, Zone{})
			m = inState(t, state)
			expect(t, m, Command{Finish, 1, n, n}, 0, api.OK)
			expectZones(t, m, Zone{Implicit, 1}, Zone{Full, zone.Length})
			expect(t, m, Command{Append, 1, 0, 1}, 0, api.ErrFull)
		}
	}
}

// P5.3: Open and Close, in every state, ignore At and N.
func TestOpenClose(t *testing.T) {
	for state, zone := range states(t) {
		for _, n := range append([]int{0, 1}, wild...) {
			m := inState(t, state)
			if zone.State == Full {
				expect(t, m, Command{Open, 1, n, n}, 0, api.ErrFull)
			} else {
				expect(t, m, Command{Open, 1, n, n}, 0, api.OK)
				expectZones(t, m, Zone{Implicit, 1}, Zone{Explicit, zone.Length})
			}
			m = inState(t, state)
			switch {
			case zone.State == Full || zone.State == Empty:
				expect(t, m, Command{Close, 1, n, n}, 0, api.ErrState)
			case zone.Length == 0:
				expect(t, m, Command{Close, 1, n, n}, 0, api.OK)
				expectZones(t, m, Zone{Implicit, 1}, Zone{})
			default:
				expect(t, m, Command{Close, 1, n, n}, 0, api.OK)
				expectZones(t, m, Zone{Implicit, 1}, Zone{Closed, zone.Length})
			}
		}
	}
}

// P5.3: Read of blocks below the Length, in every state. It changes nothing.
func TestRead(t *testing.T) {
	for state, zone := range states(t) {
		m := inState(t, state)
		for at := -2; at <= 6; at++ {
			for n := -2; n <= 6; n++ {
				if at >= 0 && n >= 1 && at+n <= zone.Length {
					expect(t, m, Command{Read, 1, at, n}, at, api.OK)
				} else {
					expect(t, m, Command{Read, 1, at, n}, 0, api.ErrRange)
				}
			}
		}
		for _, n := range wild {
			expect(t, m, Command{Read, 1, 0, n}, 0, api.ErrRange)
			expect(t, m, Command{Read, 1, n, 1}, 0, api.ErrRange)
			expect(t, m, Command{Read, 1, n, n}, 0, api.ErrRange)
			expect(t, m, Command{Read, 1, 1, n}, 0, api.ErrRange)
		}
		expectZones(t, m, Zone{Implicit, 1}, zone)
	}
}

// ways lead zone 1 to each state, with every length that it can have there.
var ways = [][]Command{
	nil,
	{{Append, 1, 0, 2}},
	{{Open, 1, 0, 0}},
	{{Open, 1, 0, 0}, {Append, 1, 0, 2}},
	{{Append, 1, 0, 3}, {Close, 1, 0, 0}},
	{{Finish, 1, 0, 0}},
	{{Append, 1, 0, 2}, {Finish, 1, 0, 0}},
	{{Append, 1, 0, 4}},
}

// inState returns a machine whose zone 0 is Implicit and whose zone 1 is where that one of the ways leads.
func inState(t *testing.T, way int) *Machine {
	t.Helper()
	m := machine(t, 2, 4, 2, 2)
	do(t, m, Command{Append, 0, 0, 1})
	do(t, m, ways[way]...)
	return m
}

// states returns zone 1 of each inState.
func states(t *testing.T) []Zone {
	t.Helper()
	want := []Zone{{Empty, 0}, {Implicit, 2}, {Explicit, 0}, {Explicit, 2}, {Closed, 3}, {Full, 0}, {Full, 2}, {Full, 4}}
	for way, zone := range want {
		expectZones(t, inState(t, way), Zone{Implicit, 1}, zone)
	}
	return want
}

// P5.4: each state after a loss of power, for each length that is left.
func TestLost(t *testing.T) {
	for way, zone := range states(t) {
		for _, left := range append([]int{0, 1, 2, 3, 4, 5}, wild...) {
			m := inState(t, way)
			m.Lost([]int{1, left})
			want := zone
			if left >= 0 && left < zone.Length {
				want = Zone{Closed, left}
			}
			if want.State != Full && want.State != Empty {
				want.State = Closed
				if want.Length == 0 {
					want.State = Empty
				}
			}
			expectZones(t, m, Zone{Closed, 1}, want)
		}
	}
}

// P5.4: a zone for which lengths has no element keeps its Length; elements for zones that do not exist are ignored.
func TestLostElements(t *testing.T) {
	start := machine(t, 4, 4, 2, 3)
	do(t, start, Command{Append, 0, 0, 4}, Command{Append, 1, 0, 3}, Command{Open, 2, 0, 0}, Command{Append, 3, 0, 2})
	expectZones(t, start, Zone{Full, 4}, Zone{Closed, 3}, Zone{Explicit, 0}, Zone{Implicit, 2})
	for _, c := range []struct {
		lengths []int
		want    []Zone
	}{
		{nil, []Zone{{Full, 4}, {Closed, 3}, {}, {Closed, 2}}},
		{[]int{}, []Zone{{Full, 4}, {Closed, 3}, {}, {Closed, 2}}},
		{[]int{3}, []Zone{{Closed, 3}, {Closed, 3}, {}, {Closed, 2}}},
		{[]int{0, 0}, []Zone{{}, {}, {}, {Closed, 2}}},
		{[]int{-1, -1, -1, 1}, []Zone{{Full, 4}, {Closed, 3}, {}, {Closed, 1}}},
		{[]int{4, 2, 1, 0}, []Zone{{Full, 4}, {Closed, 2}, {}, {}}},
		{[]int{1, 1, 1, 1, 0, 0, 0}, []Zone{{Closed, 1}, {Closed, 1}, {}, {Closed, 1}}},
	} {
		given := slices.Clone(c.lengths)
		m := start.Clone()
		m.Lost(c.lengths)
		expectZones(t, m, c.want...)
		if !slices.Equal(c.lengths, given) {
			t.Errorf("Lost changed its list %v", given)
		}
		clear(c.lengths)
		expectZones(t, m, c.want...)
	}
}

// P5.4: a zone that lost blocks is written on from what is left.
func TestWriteAfterLost(t *testing.T) {
	m := machine(t, 2, 4, 1, 2)
	do(t, m, Command{Append, 0, 0, 4}, Command{Append, 1, 0, 3})
	m.Lost([]int{2, 0})
	expect(t, m, Command{Write, 0, 4, 1}, 0, api.ErrRange)
	expect(t, m, Command{Read, 0, 1, 2}, 0, api.ErrRange)
	expect(t, m, Command{Read, 0, 0, 2}, 0, api.OK)
	expect(t, m, Command{Write, 0, 3, 1}, 0, api.ErrState)
	expect(t, m, Command{Write, 0, 2, 1}, 2, api.OK)
	expect(t, m, Command{Append, 1, 0, 4}, 0, api.OK)
	expectZones(t, m, Zone{Closed, 3}, Zone{Full, 4})
}

// P5.4: a clone is equal, with its limits, and neither changes with the other.
func TestClone(t *testing.T) {
	m := machine(t, 3, 4, 1, 2)
	do(t, m, Command{Append, 0, 0, 2}, Command{Append, 1, 0, 3})
	other := m.Clone()
	expectZones(t, other, Zone{Closed, 2}, Zone{Implicit, 3}, Zone{})
	do(t, other, Command{Append, 0, 0, 1})
	do(t, m, Command{Reset, 1, 0, 0})
	expectZones(t, other, Zone{Implicit, 3}, Zone{Closed, 3}, Zone{})
	expectZones(t, m, Zone{Closed, 2}, Zone{}, Zone{})
	expect(t, other, Command{Append, 2, 0, 1}, 0, api.ErrLimit)
	expect(t, other, Command{Append, 0, 0, 2}, 0, api.ErrRange)
	m.Lost([]int{0})
	expectZones(t, other, Zone{Implicit, 3}, Zone{Closed, 3}, Zone{})
	other.Lost(nil)
	expectZones(t, m, Zone{}, Zone{}, Zone{})
}

// P5.4: on a nil *Machine, Do returns ErrArg, and the others nothing.
func TestNil(t *testing.T) {
	var m *Machine
	for kind := -1; kind <= 9; kind++ {
		for _, z := range []int{-1, 0, 1} {
			if at, e := m.Do(Command{kind, z, 0, 1}); at != 0 || e != api.ErrArg {
				t.Errorf("Do of kind %d = %d, %d", kind, at, e)
			}
		}
	}
	for _, z := range append([]int{0, 1}, wild...) {
		if zone, ok := m.Get(z); zone != (Zone{}) || ok {
			t.Errorf("Get = %v, %v", zone, ok)
		}
	}
	if open, active := m.Counts(); open != 0 || active != 0 {
		t.Errorf("Counts are %d and %d", open, active)
	}
	m.Lost(nil)
	m.Lost([]int{0, 1})
	if m.Clone() != nil {
		t.Error("Clone")
	}
}
