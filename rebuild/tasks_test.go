package rebuild

import (
	"slices"
	"testing"

	"corbel/api"
	"corbel/plan"
)

// draws is a row of numbers that repeat in no short period.
type draws uint64

func (d *draws) from(least, greatest int) int {
	*d = *d*6364136223846793005 + 1442695040888963407
	return least + int(uint64(*d)>>33)%(greatest-least+1)
}

// tasksOf goes through the first blocks of a zone and finds what comes to a slot, as the chapters 4 and 13 say it.
func tasksOf(g api.Geometry, zone, written, slot int) []Task {
	var l []Task
	for block := range written {
		row, k := block/(g.Drives-1), block%(g.Drives-1)
		parity := (zone + row) % g.Drives
		if (parity+1+k)%g.Drives == slot {
			l = append(l, Task{Row: row, Block: block})
		}
		if parity == slot && k == g.Drives-2 {
			l = append(l, Task{Row: row, Parity: true})
		}
	}
	return l
}

// stepsOf are the tasks by the steps of one write.
func stepsOf(g api.Geometry, zone, written, slot int) []Task {
	var l []Task
	steps, _ := plan.Write(g, zone, 0, written)
	for _, s := range steps {
		if s.Slot == slot && s.Kind != plan.Note {
			l = append(l, Task{Row: s.Row, Parity: s.Kind == plan.Parity, Block: s.Block})
		}
	}
	return l
}

func expectTasks(t *testing.T, g api.Geometry, zone, written, slot int) {
	t.Helper()
	got, want := Tasks(g, zone, written, slot), tasksOf(g, zone, written, slot)
	if !slices.Equal(got, want) {
		t.Fatalf("%+v: Tasks(%d, %d, %d) = %+v, want %+v", g, zone, written, slot, got, want)
	}
	if steps := stepsOf(g, zone, written, slot); !slices.Equal(got, steps) {
		t.Fatalf("%+v: Tasks(%d, %d, %d) = %+v, but a write brings %+v", g, zone, written, slot, got, steps)
	}
}

func expectNoTasks(t *testing.T, g api.Geometry, zone, written, slot int) {
	t.Helper()
	if l := Tasks(g, zone, written, slot); len(l) != 0 {
		t.Errorf("%+v: Tasks(%d, %d, %d) = %+v", g, zone, written, slot, l)
	}
}

// P16.3: tasks that are written out. In the rows 0, 1, 2 of zone 0 the parity is on the slots 0, 1, 2.
func TestTasks(t *testing.T) {
	for _, c := range []struct {
		zone, written, slot int
		want                []Task
	}{
		{0, 0, 0, nil},
		{0, 1, 0, nil},
		{0, 1, 1, []Task{{Row: 0, Block: 0}}},
		{0, 1, 2, nil},
		{0, 2, 0, []Task{{Row: 0, Parity: true}}},
		{0, 2, 2, []Task{{Row: 0, Block: 1}}},
		{0, 3, 1, []Task{{Row: 0, Block: 0}}},
		{0, 3, 2, []Task{{Row: 0, Block: 1}, {Row: 1, Block: 2}}},
		{0, 4, 0, []Task{{Row: 0, Parity: true}, {Row: 1, Block: 3}}},
		{0, 4, 1, []Task{{Row: 0, Block: 0}, {Row: 1, Parity: true}}},
		{0, 5, 0, []Task{{Row: 0, Parity: true}, {Row: 1, Block: 3}, {Row: 2, Block: 4}}},
		{1, 1, 2, []Task{{Row: 0, Block: 0}}},
		{1, 4, 1, []Task{{Row: 0, Parity: true}, {Row: 1, Block: 3}}},
	} {
		if got := Tasks(least, c.zone, c.written, c.slot); !slices.Equal(got, c.want) {
			t.Errorf("Tasks(%d, %d, %d) = %+v, want %+v", c.zone, c.written, c.slot, got, c.want)
		}
	}
}

// P16.3: every zone, number of blocks and slot of small geometries.
func TestEachTasks(t *testing.T) {
	for _, g := range []api.Geometry{least, small, {Drives: 7, Zones: 12, Blocks: 6, Open: 1, Active: 12}, {Drives: 16, Zones: 5, Blocks: 4, Open: 1, Active: 5}} {
		for zone := range g.Zones - 3 {
			for written := range (g.Drives-1)*g.Blocks + 1 {
				for slot := range g.Drives {
					expectTasks(t, g, zone, written, slot)
				}
			}
		}
	}
}

// P16.3: geometries up to the greatest one, with whole zones.
func TestManyTasks(t *testing.T) {
	d := draws(1)
	for _, g := range geometries {
		all := (g.Drives - 1) * g.Blocks
		for slot := range g.Drives {
			expectTasks(t, g, 0, all, slot)
			expectTasks(t, g, g.Zones-4, all, slot)
			expectTasks(t, g, g.Zones-4, all-1, slot)
			for range 20 {
				expectTasks(t, g, d.from(0, g.Zones-4), d.from(0, all), slot)
			}
		}
	}
}

// P16.3: the slots have together each written block once, and each full row's parity.
func TestTasksTogether(t *testing.T) {
	for _, g := range geometries {
		written := (g.Drives-1)*g.Blocks - 1
		blocks, parities := make([]int, written), make([]int, g.Blocks-1)
		for slot := range g.Drives {
			for _, x := range Tasks(g, 1, written, slot) {
				if x.Parity {
					parities[x.Row]++
				} else {
					blocks[x.Block]++
				}
			}
		}
		notOnce := func(n int) bool { return n != 1 }
		if slices.ContainsFunc(blocks, notOnce) || slices.ContainsFunc(parities, notOnce) {
			t.Errorf("%+v: blocks %v, parities %v", g, blocks, parities)
		}
	}
}

// P16.3: no tasks for what there is not.
func TestTasksWrong(t *testing.T) {
	for _, g := range badGeometries {
		for _, n := range append([]int{0, 1, 2, 3}, wild...) {
			expectNoTasks(t, g, 0, 2, n)
			expectNoTasks(t, g, 0, n, 0)
			expectNoTasks(t, g, n, 2, 1)
			expectNoTasks(t, g, n, n, n)
		}
	}
	for _, g := range geometries {
		all := (g.Drives - 1) * g.Blocks
		for _, slot := range append([]int{g.Drives, g.Drives + 1, 17}, wild...) {
			expectNoTasks(t, g, 0, all, slot)
			expectNoTasks(t, g, 0, 0, slot)
		}
		for _, zone := range append([]int{g.Zones - 3, g.Zones - 2, g.Zones, 64}, wild...) {
			expectNoTasks(t, g, zone, all, 0)
		}
		for _, written := range append([]int{all + 1, all + 2}, wild...) {
			for slot := range g.Drives {
				expectNoTasks(t, g, 0, written, slot)
			}
		}
	}
}

// P16.3: the tasks of one call share nothing with those of another.
func TestTasksAreNew(t *testing.T) {
	clear(Tasks(small, 0, 52, 1))
	expectTasks(t, small, 0, 52, 1)
}
