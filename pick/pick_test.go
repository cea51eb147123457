package pick

import (
	"math"
	"slices"
	"testing"

	"corbel/api"
	"corbel/group"
)

// wild are numbers of nothing.
var wild = []int{-1, -2, -6, math.MinInt, math.MinInt + 1, 1<<20 + 1, 1<<20 + 6, 1 << 32, 1<<32 + 1, 1 << 62, math.MaxInt - 1, math.MaxInt}

// draws is a row of numbers that repeat in no short period.
type draws uint64

func (d *draws) next(n int) int {
	*d = *d*6364136223846793005 + 1442695040888963407
	return int(uint64(*d)>>33) % n
}

func expectVictim(t *testing.T, want int, l ...Zone) {
	t.Helper()
	if got := Victim(l); got != want {
		t.Errorf("Victim(%v) = %d, want %d", l, got, want)
	}
}

func expectEmpty(t *testing.T, want, wantCount int, l ...Zone) {
	t.Helper()
	if got, count := Empty(l); got != want || count != wantCount {
		t.Errorf("Empty(%v) = %d, %d, want %d, %d", l, got, count, want, wantCount)
	}
}

// P20.1: the zone with the least Live, wherever it is.
func TestVictimLeastLive(t *testing.T) {
	expectVictim(t, 2, Zone{Length: 9, Live: 5}, Zone{Length: 9, Live: 4}, Zone{Length: 9, Live: 3}, Zone{Length: 9, Live: 6})
	expectVictim(t, 0, Zone{Length: 1, Live: 3}, Zone{Length: 9, Live: 4}, Zone{Length: 50, Live: 5})
	expectVictim(t, 2, Zone{Length: 9, Live: 5}, Zone{Length: 8, Live: 5}, Zone{Length: 1, Live: 0})
	expectVictim(t, 0, Zone{Length: 1})
	expectVictim(t, 1, Zone{Length: 9, Live: 10}, Zone{Length: 9, Live: 9})
}

// P20.1: of equal ones the one with the greatest Length, of these the first one.
func TestVictimEqual(t *testing.T) {
	expectVictim(t, 1, Zone{Length: 4, Live: 2}, Zone{Length: 6, Live: 2}, Zone{Length: 5, Live: 2}, Zone{Length: 9, Live: 3})
	expectVictim(t, 2, Zone{Length: 4, Live: 2}, Zone{Length: 5, Live: 2}, Zone{Length: 6, Live: 2})
	expectVictim(t, 1, Zone{Length: 9, Live: 3}, Zone{Length: 6, Live: 2}, Zone{Length: 6, Live: 2}, Zone{Length: 6, Live: 2})
	expectVictim(t, 0, Zone{Length: 6, Live: 2}, Zone{Length: 6, Live: 2})
}

// P20.1: only zones that have a Length greater than 0 and are not Open; -1 if there is none.
func TestVictimNone(t *testing.T) {
	expectVictim(t, -1)
	expectVictim(t, -1, []Zone{}...)
	expectVictim(t, -1, Zone{})
	expectVictim(t, -1, Zone{Live: 3}, Zone{Length: -1}, Zone{Length: math.MinInt, Live: math.MinInt})
	expectVictim(t, -1, Zone{Length: 9, Open: true}, Zone{Open: true})
	expectVictim(t, 3, Zone{}, Zone{Length: 9, Open: true}, Zone{Length: -1}, Zone{Length: 1, Live: 8})
	expectVictim(t, 1, Zone{Length: 9, Live: 1, Open: true}, Zone{Length: 9, Live: 2}, Zone{Length: 9, Live: 3})
}

// P20.1: numbers of which no difference can be formed.
func TestVictimExtremes(t *testing.T) {
	expectVictim(t, 1, Zone{Length: 1, Live: math.MaxInt}, Zone{Length: 1, Live: math.MinInt}, Zone{Length: 1, Live: 0})
	expectVictim(t, 0, Zone{Length: 1, Live: math.MinInt}, Zone{Length: 1, Live: math.MaxInt})
	expectVictim(t, 1, Zone{Length: 1, Live: 1}, Zone{Length: math.MaxInt, Live: 1}, Zone{Length: 2, Live: 1})
	expectVictim(t, 0, Zone{Length: math.MaxInt, Live: -1}, Zone{Length: 1, Live: -1}, Zone{Length: 2, Live: 1})
	expectVictim(t, 1, Zone{Length: 5}, Zone{Length: 5, Live: -1})
}

// P20.1: the first zone whose Length is 0 and that is not Open, and the number of such zones.
func TestEmpty(t *testing.T) {
	expectEmpty(t, 0, 1, Zone{})
	expectEmpty(t, 0, 3, Zone{}, Zone{}, Zone{})
	expectEmpty(t, 1, 2, Zone{Length: 1}, Zone{}, Zone{Length: 9}, Zone{})
	expectEmpty(t, 2, 1, Zone{Open: true}, Zone{Length: 3}, Zone{}, Zone{Open: true})
	expectEmpty(t, 1, 2, Zone{Length: -1}, Zone{Live: 7}, Zone{Live: -7}, Zone{Length: math.MinInt})
}

// P20.1: -1 and 0 if there is none.
func TestEmptyNone(t *testing.T) {
	expectEmpty(t, -1, 0)
	expectEmpty(t, -1, 0, []Zone{}...)
	expectEmpty(t, -1, 0, Zone{Open: true}, Zone{Length: 1}, Zone{Length: -1}, Zone{Length: math.MaxInt}, Zone{Length: math.MinInt})
}

// victim is P20.1 sentence by sentence.
func victim(l []Zone) int {
	best := -1
	for i, z := range l {
		if z.Length <= 0 || z.Open {
			continue
		}
		switch {
		case best < 0:
			best = i
		case z.Live < l[best].Live:
			best = i
		case z.Live == l[best].Live && z.Length > l[best].Length:
			best = i
		}
	}
	return best
}

// empty is P20.1 likewise.
func empty(l []Zone) (int, int) {
	first, count := -1, 0
	for i := len(l) - 1; i >= 0; i-- {
		if l[i].Length == 0 && !l[i].Open {
			first = i
			count++
		}
	}
	return first, count
}

func expectModel(t *testing.T, l []Zone) {
	t.Helper()
	expectVictim(t, victim(l), l...)
	first, count := empty(l)
	expectEmpty(t, first, count, l...)
}

// P20.1: all lists of up to four zones with small numbers, and drawn ones that are as long as an array can have.
func TestModel(t *testing.T) {
	var zones []Zone
	for length := range 3 {
		for live := range 3 {
			zones = append(zones, Zone{length, live, false}, Zone{length, live, true})
		}
	}
	l := make([]Zone, 4)
	for n := range len(zones) * len(zones) * len(zones) * len(zones) {
		for i := range l {
			l[i] = zones[n%len(zones)]
			n /= len(zones)
		}
		for i := range l {
			expectModel(t, l[i:])
		}
		if t.Failed() {
			return
		}
	}
	d := draws(1)
	for range 20000 {
		l := make([]Zone, d.next(65))
		for i := range l {
			l[i] = Zone{Length: max(0, d.next(12)-4), Live: d.next(8), Open: d.next(5) == 0}
		}
		expectModel(t, l)
		if t.Failed() {
			return
		}
	}
}

// Arguments are not modified, nor is their spare capacity.
func TestArguments(t *testing.T) {
	all := []Zone{{5, 3, false}, {0, 0, false}, {7, 1, true}, {9, 1, false}, {1, 0, false}, {0, 0, false}}
	l := slices.Clone(all)
	if got := Victim(l[:4]); got != 3 {
		t.Error(got)
	}
	if got, count := Empty(l[:4]); got != 1 || count != 1 {
		t.Error(got, count)
	}
	if !slices.Equal(l, all) {
		t.Error(l)
	}
}

// The document's examples: eight entries are groups of 6 and 2, and seven writes and a trim have 9 blocks.
func TestExamples(t *testing.T) {
	if got := Split(8); !slices.Equal(got, []int{6, 2}) {
		t.Error(got)
	}
	if got := Pack(7, 1); got != 9 {
		t.Error(got)
	}
}

// P20.2: MaxEntry each, and the rest in the last one, which is not empty.
func TestSplit(t *testing.T) {
	for n, want := range [][]int{nil, {1}, {2}, {3}, {4}, {5}, {6}, {6, 1}, {6, 2}, {6, 3}, {6, 4}, {6, 5}, {6, 6}, {6, 6, 1}} {
		if got := Split(n); !slices.Equal(got, want) {
			t.Errorf("Split(%d) = %v, want %v", n, got, want)
		}
	}
	numbers := []int{1<<20 - 1, 1 << 20, 1<<20 - 4, 1<<20 - 3}
	for n := range 2000 {
		numbers = append(numbers, n+1)
	}
	for _, n := range numbers {
		expectSplit(t, n)
	}
}

// expectSplit holds the sizes for n entries to P20.2: their sum is n, and all but the last are MaxEntry.
func expectSplit(t *testing.T, n int) {
	t.Helper()
	sizes := Split(n)
	sum := 0
	for i, size := range sizes {
		if size != api.MaxEntry && (i < len(sizes)-1 || size < 1 || size > api.MaxEntry) {
			t.Fatalf("Split(%d) has %d at %d", n, size, i)
		}
		sum += size
	}
	if sum != n {
		t.Fatalf("Split(%d) are %d", n, sum)
	}
}

// P20.2: an empty list if there are no entries, or more than 2^20.
func TestSplitNone(t *testing.T) {
	for _, n := range append([]int{0}, wild...) {
		if got := Split(n); len(got) != 0 {
			t.Errorf("Split(%d) has %d sizes", n, len(got))
		}
	}
}

// What was returned is new.
func TestSplitOwnMemory(t *testing.T) {
	l := Split(8)
	l[0], l[1] = 77, 78
	if got := Split(8); !slices.Equal(got, []int{6, 2}) {
		t.Error(got)
	}
}

// P20.2: the writes, and a block for each MaxEntry entries, rounded up.
func TestPack(t *testing.T) {
	const most = 1 << 20
	for _, x := range []struct{ writes, trims, want int }{
		{0, 0, 0}, {1, 0, 2}, {0, 1, 1}, {5, 0, 6}, {6, 0, 7}, {7, 0, 9}, {12, 0, 14}, {13, 0, 16},
		{0, 6, 1}, {0, 7, 2}, {0, 12, 2}, {0, 13, 3}, {3, 3, 4}, {3, 4, 5}, {4, 3, 6}, {5, 1, 6}, {5, 2, 7}, {1, 5, 2}, {1, 6, 3},
		{most, 0, most + 174763}, {0, most, 174763}, {most, most, most + 349526}, {most - 1, 1, most - 1 + 174763},
		{most, 2, most + 174763}, {most, 3, most + 174764}, {most - 4, 0, most - 4 + 174762},
	} {
		if got := Pack(x.writes, x.trims); got != x.want {
			t.Errorf("Pack(%d, %d) = %d, want %d", x.writes, x.trims, got, x.want)
		}
	}
}

// P20.2: 0 if a number is negative or greater than 2^20, whichever the other one is.
func TestPackNone(t *testing.T) {
	others := append([]int{0, 1, 6, 1 << 20}, wild...)
	for _, n := range wild {
		for _, other := range others {
			if got := Pack(n, other); got != 0 {
				t.Errorf("Pack(%d, %d) = %d", n, other, got)
			}
			if got := Pack(other, n); got != 0 {
				t.Errorf("Pack(%d, %d) = %d", other, n, got)
			}
		}
	}
}

// P20.2, P18.1: Pack is what the groups have that Split tells.
func TestPackGroups(t *testing.T) {
	for writes := range 30 {
		for trims := range 30 {
			entries := make([]group.Entry, writes+trims)
			for i := range trims {
				entries[i].Trim = true
			}
			blocks := 0
			for _, n := range Split(writes + trims) {
				blocks += group.Blocks(entries[:n])
				entries = entries[n:]
			}
			if got := Pack(writes, trims); got != blocks || len(entries) != 0 {
				t.Errorf("Pack(%d, %d) = %d, want %d", writes, trims, got, blocks)
			}
		}
	}
}
