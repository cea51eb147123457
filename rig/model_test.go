package rig

import (
	"math/rand"
	"slices"
	"testing"

	"corbel/api"
	"corbel/drive"
	"corbel/zone"
)

// mirror is a rig as the document tells it: drives of layer 7, and the number of modifying commands at which the power fails.
type mirror struct {
	drives []*drive.Drive
	off    bool
	count  int
	left   int // modifying commands up to the one at which the power fails; 0 if no Cut is pending
	keep   []int
}

func (m *mirror) command(d int, modifying bool, execute func(*drive.Drive) (string, int, api.Errno)) (string, int, api.Errno) {
	if d < 0 || d >= len(m.drives) {
		return "", 0, api.ErrArg
	}
	if m.off {
		return "", 0, api.ErrPower
	}
	if m.drives[d].Dead() {
		return "", 0, api.ErrDead
	}
	if modifying && m.left > 0 {
		m.left--
		if m.left == 0 {
			m.fail(m.keep)
			return "", 0, api.ErrPower
		}
	}
	if modifying {
		m.count++
	}
	return execute(m.drives[d])
}

func (m *mirror) fail(keep []int) {
	for d := range m.drives {
		var l []int
		for i := range keep {
			l = append(l, keep[(d+i)%len(keep)])
		}
		m.drives[d].Lose(l)
	}
	m.off, m.left = true, 0
}

// P8.1, P8.2, P8.3: long mixtures of all calls do what the mirror does.
func TestMirror(t *testing.T) {
	for seed := range int64(200) {
		compare(t, rand.New(rand.NewSource(seed)))
		if t.Failed() {
			t.Fatalf("seed %d", seed)
		}
	}
}

func compare(t *testing.T, random *rand.Rand) {
	drives := 1 + random.Intn(5)
	r, m := newRig(t, drives), &mirror{}
	for range drives {
		d, _ := drive.New(small.Zones, small.Blocks, small.Open, small.Active)
		m.drives = append(m.drives, d)
	}
	for range 400 {
		step(t, random, r, m)
		if r.Off() != m.off || r.Count() != m.count || r.Drives() != drives || r.Blocks() != small.Blocks {
			t.Fatalf("off %v, count %d, want %v, %d", r.Off(), r.Count(), m.off, m.count)
		}
		for d := range drives {
			if r.Dead(d) != m.drives[d].Dead() {
				t.Fatalf("Dead(%d) is %v", d, r.Dead(d))
			}
			for z := range small.Zones {
				got, _ := r.Zone(d, z)
				if want, _ := m.drives[d].Zone(z); got != want {
					t.Fatalf("zone %d of drive %d is %v, want %v", z, d, got, want)
				}
			}
		}
	}
}

// step makes one call of r, and the same of m.
func step(t *testing.T, random *rand.Rand, r *Rig, m *mirror) {
	d := random.Intn(len(m.drives)+1) - random.Intn(2)
	keep := make([]int, random.Intn(7))
	for i := range keep {
		keep[i] = random.Intn(19) - 9
	}
	switch random.Intn(40) {
	case 0:
		r.On()
		m.off, m.left = false, 0
	case 1:
		r.Crash(keep...)
		m.fail(keep)
		m.off = false
	case 2, 3, 4:
		n := random.Intn(20) - 1
		r.Cut(n, keep...)
		m.left, m.keep = max(n, 1), slices.Clone(keep)
		clear(keep)
	case 5:
		if random.Intn(10) == 0 && d >= 0 && d < len(m.drives) {
			r.Kill(d)
			m.drives[d].Die()
		}
	case 6, 7, 8:
		_, _, want := m.command(d, true, func(d *drive.Drive) (string, int, api.Errno) { return "", 0, d.Flush() })
		expectFlush(t, r, d, want)
	case 9, 10:
		if m.off {
			r.On()
			m.off, m.left = false, 0
		}
	default:
		c, data := someCommand(random)
		want, at, e := m.command(d, c.Kind != 7, func(d *drive.Drive) (string, int, api.Errno) { return d.Do(c, data) })
		expect(t, r, d, c, data, want, at, e)
	}
}

func someCommand(random *rand.Rand) (zone.Command, string) {
	kinds := []int{0, zone.Write, zone.Append, zone.Append, zone.Append, zone.Append, zone.Reset, zone.Finish, zone.Open, zone.Close, zone.Read, zone.Read, 8}
	c := zone.Command{
		Kind: kinds[random.Intn(len(kinds))],
		Zone: random.Intn(small.Zones+2) - 1,
		At:   random.Intn(4) - 1,
		N:    random.Intn(4),
	}
	if c.Kind != zone.Write && c.Kind != zone.Append {
		return c, ""
	}
	data := make([]byte, c.N*api.Block)
	random.Read(data)
	return c, string(data)
}
