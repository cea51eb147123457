package zone

import (
	"testing"

	"corbel/api"
)

const (
	modelZones  = 3
	modelBlocks = 2
)

// model is a small machine as the document tells it, sentence by sentence. It is a value: what fails leaves no trace.
type model struct {
	zones        [modelZones]Zone
	open, active int
}

func (m model) count(states ...int) int {
	n := 0
	for _, z := range m.zones {
		for _, s := range states {
			if z.State == s {
				n++
			}
		}
	}
	return n
}

// opened is the sentence 'To open a zone' (P5.2).
func (m model) opened(z, state int) (model, api.Errno) {
	was := m.zones[z].State
	m.zones[z].State = state
	if was == Implicit || was == Explicit {
		return m, api.OK
	}
	m.zones[z].State = was
	if was == Empty && m.count(Implicit, Explicit, Closed) >= m.active {
		return m, api.ErrLimit
	}
	if m.count(Implicit, Explicit) >= m.open {
		if m.count(Implicit) == 0 {
			return m, api.ErrLimit
		}
		least := 0
		for m.zones[least].State != Implicit {
			least++
		}
		m.zones[least].State = Closed
	}
	m.zones[z].State = state
	return m, api.OK
}

// do is P5.3.
func (m model) do(c Command) (model, int, api.Errno) {
	if c.Kind < 1 || c.Kind > 7 {
		return m, 0, api.ErrArg
	}
	if c.Zone < 0 || c.Zone > modelZones-1 {
		return m, 0, api.ErrRange
	}
	z := m.zones[c.Zone]
	switch c.Kind {
	case 1:
		if c.At < 0 || c.N < 1 || c.At+c.N > modelBlocks {
			return m, 0, api.ErrRange
		}
		if z.State == Full {
			return m, 0, api.ErrFull
		}
		if c.At != z.Length {
			return m, 0, api.ErrState
		}
		return m.written(c)
	case 2:
		if c.N < 1 || c.N > modelBlocks {
			return m, 0, api.ErrRange
		}
		if z.State == Full {
			return m, 0, api.ErrFull
		}
		if z.Length+c.N > modelBlocks {
			return m, 0, api.ErrRange
		}
		return m.written(c)
	case 3:
		m.zones[c.Zone] = Zone{Empty, 0}
	case 4:
		m.zones[c.Zone].State = Full
	case 5:
		if z.State == Full {
			return m, 0, api.ErrFull
		}
		after, e := m.opened(c.Zone, Explicit)
		if e != api.OK {
			return m, 0, e
		}
		return after, 0, api.OK
	case 6:
		if z.State == Empty || z.State == Full {
			return m, 0, api.ErrState
		}
		m.zones[c.Zone] = closed(z)
	case 7:
		if c.At < 0 || c.N < 1 || c.At+c.N > z.Length {
			return m, 0, api.ErrRange
		}
		return m, c.At, api.OK
	}
	return m, 0, api.OK
}

func (m model) written(c Command) (model, int, api.Errno) {
	z := m.zones[c.Zone]
	state := Implicit
	if z.State == Explicit {
		state = Explicit
	}
	after, e := m.opened(c.Zone, state)
	if e != api.OK {
		return m, 0, e
	}
	after.zones[c.Zone].Length += c.N
	if after.zones[c.Zone].Length == modelBlocks {
		after.zones[c.Zone].State = Full
	}
	return after, z.Length, api.OK
}

func closed(z Zone) Zone {
	if z.Length == 0 {
		return Zone{Empty, 0}
	}
	return Zone{Closed, z.Length}
}

// lost is P5.4.
func (m model) lost(lengths []int) model {
	for i, z := range m.zones {
		decreased := lengths[i] >= 0 && lengths[i] < z.Length
		if decreased {
			z.Length = lengths[i]
		}
		if decreased && z.State == Full || z.State == Implicit || z.State == Explicit || z.State == Closed {
			z = closed(z)
		}
		m.zones[i] = z
	}
	return m
}

// P5.2, P5.3, P5.4: every command and every loss of power in every state that three zones of two blocks can come to.
func TestModel(t *testing.T) {
	for active := 1; active <= modelZones; active++ {
		for open := 1; open <= active; open++ {
			if n := explore(t, open, active); n < 100 {
				t.Errorf("with %d open and %d active zones, only %d states were found", open, active, n)
			}
		}
	}
}

// explore goes from the new machine on to each state, once, and returns their number.
func explore(t *testing.T, open, active int) int {
	start, _ := New(modelZones, modelBlocks, open, active)
	first := model{open: open, active: active}
	found := map[model]*Machine{first: start}
	work := []model{first}
	for len(work) > 0 {
		from := work[0]
		work = work[1:]
		visit := func(to model, m *Machine) {
			if held := all(m); [modelZones]Zone(held) != to.zones {
				t.Fatalf("from %v: %v, want %v", from, held, to.zones)
			}
			if found[to] == nil {
				found[to] = m
				work = append(work, to)
			}
		}
		for _, c := range commandsOf() {
			m := found[from].Clone()
			to, wantAt, wantErr := from.do(c)
			if at, e := m.Do(c); at != wantAt || e != wantErr {
				t.Fatalf("%v, %+v: %d, %d, want %d, %d", from, c, at, e, wantAt, wantErr)
			}
			if o, a := m.Counts(); o != to.count(Implicit, Explicit) || a != to.count(Implicit, Explicit, Closed) || o > open {
				t.Fatalf("%v, %+v: Counts are %d and %d", from, c, o, a)
			}
			visit(to, m)
		}
		for _, lengths := range lossesOf() {
			m := found[from].Clone()
			m.Lost(lengths)
			visit(from.lost(lengths), m)
		}
	}
	return len(found)
}

// commandsOf returns the commands of all kinds, with numbers up to one beyond what there is.
func commandsOf() []Command {
	var l []Command
	for kind := range 9 {
		for z := -1; z <= modelZones; z++ {
			for at := -1; at <= modelBlocks+1; at++ {
				for n := -1; n <= modelBlocks+1; n++ {
					l = append(l, Command{kind, z, at, n})
				}
			}
		}
	}
	return l
}

func lossesOf() [][]int {
	l := [][]int{nil}
	for range modelZones {
		var longer [][]int
		for _, head := range l {
			for n := -1; n <= modelBlocks; n++ {
				longer = append(longer, append(head[:len(head):len(head)], n))
			}
		}
		l = longer
	}
	return l
}
