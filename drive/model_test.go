package drive

import (
	"math"
	"math/rand"
	"slices"
	"strings"
	"testing"

	"corbel/api"
	"corbel/zone"
)

const (
	modelZones  = 4
	modelBlocks = 5
)

// model is a drive as the document tells it: a machine of layer 5, and a list of blocks for each zone.
type model struct {
	machine *zone.Machine
	blocks  [modelZones][]string
	lasts   [modelZones]int
}

func (m *model) do(c zone.Command, data string) (string, int, api.Errno) {
	length := 0
	if (c.Kind == 1 || c.Kind == 2) && c.N >= 0 {
		length = c.N * 64
	}
	if len(data) != length {
		return "", 0, api.ErrArg
	}
	at, e := m.machine.Do(c)
	if e != api.OK {
		return "", 0, e
	}
	read := ""
	switch c.Kind {
	case 1, 2:
		for i := range c.N {
			m.blocks[c.Zone] = append(m.blocks[c.Zone], data[i*64:i*64+64])
		}
	case 3:
		m.blocks[c.Zone], m.lasts[c.Zone] = nil, 0
	case 4:
		m.lasts[c.Zone] = len(m.blocks[c.Zone])
	case 7:
		read = strings.Join(m.blocks[c.Zone][c.At:c.At+c.N], "")
	}
	return read, at, api.OK
}

func (m *model) flush() {
	for z := range m.blocks {
		m.lasts[z] = len(m.blocks[z])
	}
}

func (m *model) lose(keep []int) {
	lengths := make([]int, modelZones)
	for z := range m.blocks {
		n := 0
		if len(keep) > 0 {
			n = keep[z%len(keep)]
		}
		if n < 0 {
			n = -(n + 1)
		}
		lengths[z] = m.lasts[z] + n%(len(m.blocks[z])-m.lasts[z]+1)
		m.blocks[z] = m.blocks[z][:lengths[z]:lengths[z]]
		m.lasts[z] = lengths[z]
	}
	m.machine.Lost(lengths)
}

// P7.1, P7.2, P7.3: long mixtures of all commands, flushes and losses of power do what the model does.
func TestModel(t *testing.T) {
	for seed := range int64(300) {
		compare(t, rand.New(rand.NewSource(seed)))
		if t.Failed() {
			t.Fatalf("seed %d", seed)
		}
	}
}

func compare(t *testing.T, r *rand.Rand) {
	active := 1 + r.Intn(modelZones)
	open := 1 + r.Intn(active)
	d := newDrive(t, modelZones, modelBlocks, open, active)
	states, _ := zone.New(modelZones, modelBlocks, open, active)
	m := &model{machine: states}
	for range 300 {
		switch r.Intn(12) {
		case 0:
			flush(t, d)
			m.flush()
		case 1:
			keep := someKeep(r)
			given := slices.Clone(keep)
			d.Lose(keep)
			m.lose(given)
		default:
			c, data := someCommand(r, d)
			want, at, e := m.do(c, data)
			expect(t, d, c, data, want, at, e)
		}
		for z := range modelZones {
			got, _ := d.Zone(z)
			want, _ := m.machine.Get(z)
			if got != want || d.Lasts(z) != m.lasts[z] {
				t.Fatalf("zone %d is %v with %d durable, want %v with %d", z, got, d.Lasts(z), want, m.lasts[z])
			}
			if want.Length > 0 {
				all := zone.Command{Kind: zone.Read, Zone: z, N: want.Length}
				expect(t, d, all, "", strings.Join(m.blocks[z], ""), 0, api.OK)
			}
		}
	}
}

func someKeep(r *rand.Rand) []int {
	keep := make([]int, r.Intn(modelZones+2))
	for i := range keep {
		keep[i] = []int{r.Intn(8), -r.Intn(8), math.MinInt, math.MaxInt, r.Int(), -r.Int()}[r.Intn(6)]
	}
	return keep
}

// someCommand returns a command that is mostly possible, and data that mostly matches it.
func someCommand(r *rand.Rand, d *Drive) (zone.Command, string) {
	c := zone.Command{Kind: r.Intn(9), Zone: r.Intn(modelZones), N: 1 + r.Intn(2)}
	if r.Intn(30) == 0 {
		c.Zone = []int{-1, modelZones, math.MinInt}[r.Intn(3)]
	}
	if now, ok := d.Zone(c.Zone); ok && r.Intn(8) > 0 {
		c.At = now.Length
		if c.Kind == zone.Read {
			c.At = r.Intn(now.Length + 1)
		}
	} else {
		c.At = r.Intn(modelBlocks+2) - 1
	}
	if r.Intn(8) == 0 {
		c.N = r.Intn(modelBlocks+4) - 2
	}
	if c.Kind != zone.Write && c.Kind != zone.Append && r.Intn(20) > 0 || c.N < 0 {
		return c, ""
	}
	data := make([]byte, c.N*api.Block)
	r.Read(data)
	if r.Intn(20) == 0 {
		return c, string(data) + "x"
	}
	return c, string(data)
}
