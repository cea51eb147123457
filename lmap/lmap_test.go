package lmap

import (
	"cmp"
	"math"
	"slices"
	"strings"
	"testing"

	"corbel/api"
	"corbel/group"
)

// draws is a row of numbers that repeat in no short period.
type draws uint64

func (d *draws) next(n int) int {
	*d = *d*6364136223846793005 + 1442695040888963407
	return int(uint64(*d)>>33) % n
}

// of returns a group of writes of these blocks.
func of(seq int, blocks ...int) group.Group {
	g := group.Group{Seq: seq}
	for _, b := range blocks {
		g.Entries = append(g.Entries, group.Entry{Block: b})
	}
	return g
}

// trims returns a group of trims of these blocks.
func trims(seq int, blocks ...int) group.Group {
	g := of(seq, blocks...)
	for i := range g.Entries {
		g.Entries[i].Trim = true
	}
	return g
}

func expectGet(t *testing.T, m *Map, block int, where Where, trim, ok bool) {
	t.Helper()
	if w, tr, found := m.Get(block); w != where || tr != trim || found != ok {
		t.Errorf("Get(%d) = %v, %v, %v, want %v, %v, %v", block, w, tr, found, where, trim, ok)
	}
}

func expectLive(t *testing.T, m *Map, zone int, want ...Live) {
	t.Helper()
	if got := m.Live(zone); !slices.Equal(got, want) {
		t.Errorf("Live(%d) = %v, want %v", zone, got, want)
	}
}

func expectCounts(t *testing.T, m *Map, want ...int) {
	t.Helper()
	if got := m.Counts(len(want)); !slices.Equal(got, want) {
		t.Errorf("Counts(%d) = %v, want %v", len(want), got, want)
	}
}

func expectSeq(t *testing.T, m *Map, want int) {
	t.Helper()
	if got := m.Seq(); got != want {
		t.Errorf("Seq = %d, want %d", got, want)
	}
}

// P19.1, P19.2: nothing is in a new map, and what is added to one is not in another.
func TestNew(t *testing.T) {
	m := New()
	if m == nil {
		t.Fatal("nil")
	}
	other := New()
	other.Add(0, 0, of(5, 0))
	for _, b := range []int{0, 1, -1, math.MinInt, math.MaxInt} {
		expectGet(t, m, b, Where{}, false, false)
	}
	expectLive(t, m, 0)
	expectCounts(t, m, 0, 0, 0)
	expectSeq(t, m, 0)
	expectSeq(t, other, 5)
}

// The document's example: of the Seqs 5 and 4, the first one has the newest entry.
func TestExample(t *testing.T) {
	m := New()
	m.Add(0, 0, of(5, 3))
	m.Add(1, 2, of(4, 3))
	expectGet(t, m, 3, Where{Zone: 0, At: 0, Entry: 0}, false, true)
	expectLive(t, m, 0, Live{Block: 3})
	expectLive(t, m, 1)
	expectCounts(t, m, 1, 0)
	expectSeq(t, m, 5)
}

// P19.1: the group with the greatest Seq has the newest entry, in whichever order they are added.
func TestNewest(t *testing.T) {
	for _, order := range [][]int{{4, 5, 6}, {4, 6, 5}, {5, 4, 6}, {5, 6, 4}, {6, 4, 5}, {6, 5, 4}} {
		m := New()
		for _, seq := range order {
			m.Add(seq, 10*seq, of(seq, 8, 3))
		}
		expectGet(t, m, 3, Where{6, 60, 1}, false, true)
		expectGet(t, m, 8, Where{6, 60, 0}, false, true)
		expectCounts(t, m, 0, 0, 0, 0, 0, 0, 2)
		expectSeq(t, m, 6)
	}
}

// P19.1: a group with a lesser Seq has the newest entry of those blocks that the greater one has not.
func TestEachBlock(t *testing.T) {
	m := New()
	m.Add(2, 7, of(9, 1, 2))
	m.Add(0, 4, of(8, 2, 3))
	expectGet(t, m, 1, Where{2, 7, 0}, false, true)
	expectGet(t, m, 2, Where{2, 7, 1}, false, true)
	expectGet(t, m, 3, Where{0, 4, 1}, false, true)
	expectCounts(t, m, 1, 0, 2)
}

// P19.1: of groups with the same Seq, the one that was added last, wherever it is.
func TestSameSeq(t *testing.T) {
	for _, last := range []Where{{Zone: 0, At: 5}, {Zone: 1, At: 0}, {Zone: 0, At: 0}, {Zone: -1, At: -1}} {
		m := New()
		m.Add(0, 5, of(7, 3, 4))
		m.Add(1, 9, of(7, 3))
		m.Add(last.Zone, last.At, trims(7, 3))
		expectGet(t, m, 3, last, true, true)
		expectGet(t, m, 4, Where{0, 5, 1}, false, true)
		m.Add(5, 5, of(6, 3))
		expectGet(t, m, 3, last, true, true)
		expectSeq(t, m, 7)
	}
}

// P19.1: of several entries in a group, the last one, also after a group with the same Seq.
func TestSameGroup(t *testing.T) {
	m := New()
	g := of(7, 3, 4, 3, 3, 4)
	g.Entries[3].Trim = true
	m.Add(0, 5, g)
	expectGet(t, m, 3, Where{0, 5, 3}, true, true)
	expectGet(t, m, 4, Where{0, 5, 4}, false, true)
	expectLive(t, m, 0, Live{3, true, Where{0, 5, 3}}, Live{4, false, Where{0, 5, 4}})
	m.Add(1, 6, of(7, 3, 3))
	expectGet(t, m, 3, Where{1, 6, 1}, false, true)
	m.Add(2, 7, of(6, 3, 3, 3, 3, 3))
	expectGet(t, m, 3, Where{1, 6, 1}, false, true)
	expectCounts(t, m, 1, 1, 0)
}

// P19.2: a Trim is an entry as any other: it is found, live and counted, and a write after it takes its place.
func TestTrim(t *testing.T) {
	m := New()
	m.Add(1, 2, trims(1, 6))
	expectGet(t, m, 6, Where{1, 2, 0}, true, true)
	expectLive(t, m, 1, Live{6, true, Where{1, 2, 0}})
	expectCounts(t, m, 0, 1)
	m.Add(0, 3, of(2, 5, 6))
	expectGet(t, m, 6, Where{0, 3, 1}, false, true)
	m.Add(1, 3, trims(3, 6))
	expectGet(t, m, 6, Where{1, 3, 0}, true, true)
	expectCounts(t, m, 1, 1)
}

// P19.2: the live entries of a zone, in ascending order of At and Entry, whatever their blocks, Seqs and order of addition are.
func TestLiveOrder(t *testing.T) {
	m := New()
	m.Add(3, 20, of(1, 9, 2, 8))
	m.Add(3, 5, of(9, 7, 4))
	m.Add(3, 100, of(5, 1))
	m.Add(2, 50, of(3, 6))
	m.Add(3, -4, trims(2, 10, 3))
	m.Add(3, 11, of(8, 2, 5))
	expectLive(t, m, 3,
		Live{10, true, Where{3, -4, 0}}, Live{3, true, Where{3, -4, 1}},
		Live{7, false, Where{3, 5, 0}}, Live{4, false, Where{3, 5, 1}},
		Live{2, false, Where{3, 11, 0}}, Live{5, false, Where{3, 11, 1}},
		Live{9, false, Where{3, 20, 0}}, Live{8, false, Where{3, 20, 2}},
		Live{1, false, Where{3, 100, 0}})
	expectLive(t, m, 2, Live{6, false, Where{2, 50, 0}})
	for _, zone := range []int{0, 1, 4, -1, 64, math.MinInt, math.MaxInt} {
		expectLive(t, m, zone)
	}
}

// P19.2: entries at the same place, which groups that were added there have, come in one order always.
func TestLiveSamePlace(t *testing.T) {
	for range 50 {
		m := New()
		for _, block := range []int{5, -3, 9, 0, 7, 2, 1} {
			m.Add(0, 4, of(10-block, block))
		}
		var want []Live
		for _, block := range []int{-3, 0, 1, 2, 5, 7, 9} {
			want = append(want, Live{block, false, Where{0, 4, 0}})
		}
		expectLive(t, m, 0, want...)
	}
}

// P19.2: the zones from 0 on, of which there are between 1 and MaxZones; others are not counted.
func TestCounts(t *testing.T) {
	m := New()
	m.Add(0, 0, of(1, 1, 2))
	m.Add(63, 0, of(2, 3, 4, 5))
	m.Add(64, 0, of(3, 6))
	m.Add(-1, 0, of(4, 7))
	m.Add(math.MinInt, 0, of(4, 8))
	m.Add(math.MaxInt, 0, of(4, 9))
	for zones := 1; zones <= api.MaxZones; zones++ {
		want := make([]int, zones)
		want[0] = 2
		if zones == 64 {
			want[63] = 3
		}
		expectCounts(t, m, want...)
	}
	for _, zones := range []int{0, -1, 65, 66, 1 << 32, 1<<32 + 1, math.MinInt, math.MaxInt} {
		if got := m.Counts(zones); len(got) != 0 {
			t.Errorf("Counts(%d) = %v", zones, got)
		}
	}
}

// P19.2: the greatest Seq of all groups, also of those that have no newest entry, no entry at all, or a negative Seq.
func TestSeq(t *testing.T) {
	m := New()
	m.Add(0, 0, of(-5, 1))
	expectSeq(t, m, -5)
	m.Add(0, 0, of(-7, 2))
	expectSeq(t, m, -5)
	m.Add(0, 0, of(0, 1))
	expectSeq(t, m, 0)
	m.Add(0, 0, of(9))
	expectSeq(t, m, 9)
	m.Add(0, 0, of(8, 1))
	expectSeq(t, m, 9)
	m.Add(0, 0, of(math.MaxInt, 1))
	m.Add(0, 0, of(math.MinInt, 1))
	expectSeq(t, m, math.MaxInt)
	none := New()
	none.Add(0, 0, of(math.MinInt))
	expectSeq(t, none, math.MinInt)
}

// P19.1: any group can be added, also one that can't be encoded, and its data are ignored.
func TestAny(t *testing.T) {
	m := New()
	wild := []int{math.MinInt, math.MinInt + 1, -1 << 32, -1, 1 << 31, 1 << 32, 1<<40 + 1, math.MaxInt}
	g := of(math.MinInt, wild...)
	g.Data = []string{"x", strings.Repeat("y", 1000)}
	m.Add(math.MinInt, math.MaxInt, g)
	for i, b := range wild {
		expectGet(t, m, b, Where{math.MinInt, math.MaxInt, i}, false, true)
	}
	expectGet(t, m, 0, Where{}, false, false)
	if got := m.Live(math.MinInt); len(got) != len(wild) {
		t.Error(got)
	}
	m.Add(0, 0, group.Group{})
	m.Add(0, 0, group.Group{Data: []string{"x"}})
	expectCounts(t, m, 0)
	var many []int
	for b := range 1000 {
		many = append(many, b)
	}
	m.Add(1, 0, of(1, many...))
	expectCounts(t, m, 0, 1000)
	expectGet(t, m, 999, Where{1, 0, 999}, false, true)
}

// P19.2: a nil map.
func TestNil(t *testing.T) {
	var m *Map
	m.Add(0, 0, of(5, 3))
	for _, b := range []int{0, 3, -1} {
		expectGet(t, m, b, Where{}, false, false)
	}
	expectLive(t, m, 0)
	for _, zones := range []int{1, 64, 0, -1, 65} {
		if got := m.Counts(zones); len(got) != 0 {
			t.Error(zones, got)
		}
	}
	expectSeq(t, m, 0)
}

// P1: no call panics for a map that New did not make.
func TestZeroMap(t *testing.T) {
	var m Map
	expectGet(t, &m, 3, Where{}, false, false)
	expectLive(t, &m, 0)
	expectCounts(t, &m, 0, 0)
	expectSeq(t, &m, 0)
	m.Add(1, 2, of(5, 3))
	expectGet(t, &m, 3, Where{1, 2, 0}, false, true)
	expectCounts(t, &m, 0, 1)
}

// What was handed in is neither changed nor kept, and what was returned is new.
func TestOwnMemory(t *testing.T) {
	m := New()
	g := of(5, 3, 4)
	m.Add(0, 1, g)
	if !slices.Equal(g.Entries, of(5, 3, 4).Entries) {
		t.Error(g)
	}
	g.Entries[0] = group.Entry{Block: 9, Trim: true}
	live, counts := m.Live(0), m.Counts(1)
	live[0], counts[0] = Live{}, 77
	expectLive(t, m, 0, Live{3, false, Where{0, 1, 0}}, Live{4, false, Where{0, 1, 1}})
	expectCounts(t, m, 2)
	expectGet(t, m, 9, Where{}, false, false)
}

// added is a group in its place.
type added struct {
	zone, at int
	g        group.Group
}

// newest is P19.1 sentence by sentence: the groups that have the block, the greatest Seq of these, the last one with it, its last entry.
func newest(l []added, block int) (Where, bool, bool) {
	has := func(e group.Entry) bool { return e.Block == block }
	with := slices.DeleteFunc(slices.Clone(l), func(x added) bool { return !slices.ContainsFunc(x.g.Entries, has) })
	if len(with) == 0 {
		return Where{}, false, false
	}
	greatest := slices.MaxFunc(with, func(a, b added) int { return cmp.Compare(a.g.Seq, b.g.Seq) }).g.Seq
	with = slices.DeleteFunc(with, func(x added) bool { return x.g.Seq != greatest })
	x := with[len(with)-1]
	i := len(x.g.Entries) - 1
	for !has(x.g.Entries[i]) {
		i--
	}
	return Where{x.zone, x.at, i}, x.g.Entries[i].Trim, true
}

// expectModel holds all answers of m to what the document says of the groups that were added.
func expectModel(t *testing.T, m *Map, l []added, zones, blocks int) {
	t.Helper()
	seq := 0
	for i, x := range l {
		if i == 0 || x.g.Seq > seq {
			seq = x.g.Seq
		}
	}
	expectSeq(t, m, seq)
	live := make([][]Live, zones)
	for b := range blocks {
		w, trim, ok := newest(l, b)
		expectGet(t, m, b, w, trim, ok)
		if ok {
			live[w.Zone] = append(live[w.Zone], Live{b, trim, w})
		}
	}
	var counts []int
	for z, want := range live {
		slices.SortFunc(want, func(a, b Live) int {
			if a.Where.At != b.Where.At {
				return a.Where.At - b.Where.At
			}
			return a.Where.Entry - b.Where.Entry
		})
		expectLive(t, m, z, want...)
		counts = append(counts, len(want))
	}
	expectCounts(t, m, counts...)
}

// P19.1, P19.2: long mixtures, held against the document after each group. Each group has a place of its own, as in zones.
func TestModel(t *testing.T) {
	d := draws(1)
	for range 150 {
		zones, blocks, seqs := 1+d.next(5), 1+d.next(20), 1+d.next(40)
		ends := make([]int, zones)
		m := New()
		var l []added
		for range 30 {
			x := added{zone: d.next(zones), g: group.Group{Seq: d.next(seqs) - 2}}
			for range d.next(7) {
				x.g.Entries = append(x.g.Entries, group.Entry{Block: d.next(blocks), Trim: d.next(3) == 0})
			}
			x.at = ends[x.zone]
			ends[x.zone] += group.Blocks(x.g.Entries)
			m.Add(x.zone, x.at, x.g)
			l = append(l, x)
			expectModel(t, m, l, zones, blocks)
		}
		if t.Failed() {
			return
		}
	}
}

// P18.2, P19.1: groups that were scanned from a zone are added where Scan tells that they begin.
func TestScanned(t *testing.T) {
	s := ""
	for seq := range 10 {
		g := group.Group{Seq: seq, Entries: []group.Entry{{Block: seq % 3}, {Block: 5, Trim: true}}, Data: []string{strings.Repeat("x", 64), ""}}
		x, e := group.Encode(g)
		if e != api.OK {
			t.Fatal(e)
		}
		s += x
	}
	m := New()
	groups, begins := group.Scan(s)
	for i, g := range groups {
		m.Add(2, begins[i], g)
	}
	expectLive(t, m, 2,
		Live{1, false, Where{2, 14, 0}}, Live{2, false, Where{2, 16, 0}},
		Live{0, false, Where{2, 18, 0}}, Live{5, true, Where{2, 18, 1}})
}
