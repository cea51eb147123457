package notes

import (
	"cmp"
	"math"
	"slices"
	"strings"
	"testing"

	"corbel/api"
	"corbel/record"
)

const (
	maxSmall  = 65535
	maxNumber = 1099511627776
)

// wild are numbers that a record can't have.
var wild = []int{-1, -2, -65536, math.MinInt, math.MinInt + 1, maxNumber + 1, 1 << 48, 1 << 56, 1 << 62, math.MaxInt - 1, math.MaxInt}

// draws is a row of numbers that repeat in no short period.
type draws uint64

func (d *draws) next(n int) int {
	*d = *d*6364136223846793005 + 1442695040888963407
	return int(uint64(*d)>>33) % n
}

// parityOf is a block of bytes; another one for each seed.
func parityOf(seed int) string {
	d := draws(seed)
	b := make([]byte, 64)
	for i := range b {
		b[i] = byte(d.next(256))
	}
	return string(b)
}

// note has a parity of its own, by which it is told from others of the same row and count.
func note(row, count, seed int) Note {
	return Note{Row: row, Count: count, Parity: parityOf(seed)}
}

// recordOf is the record of a note as the document has it.
func recordOf(seq, zone, gen int, n Note) record.Record {
	return record.Record{Kind: 4, Seq: seq, A: zone, B: n.Row, C: gen, D: n.Count, Body: n.Parity}
}

// P14.1: the record of a note, with each number up to its limit.
func TestMake(t *testing.T) {
	for _, c := range []struct {
		seq, zone, gen int
		n              Note
	}{
		{0, 0, 0, note(0, 0, 1)},
		{1, 2, 3, note(4, 5, 2)},
		{9, 1, 7, Note{Row: 8, Count: 6, Parity: strings.Repeat("\x00", 64)}},
		{maxNumber, 0, 0, note(0, 0, 3)},
		{0, maxSmall, 0, note(0, 0, 4)},
		{0, 0, maxNumber, note(0, 0, 5)},
		{0, 0, 0, note(maxSmall, 0, 6)},
		{0, 0, 0, note(0, maxSmall, 7)},
		{maxNumber, maxSmall, maxNumber, note(maxSmall, maxSmall, 8)},
	} {
		got, e := Make(c.seq, c.zone, c.gen, c.n)
		if want := recordOf(c.seq, c.zone, c.gen, c.n); e != api.OK || got != want {
			t.Errorf("Make(%d, %d, %d, %#v) = %#v, %d, want %#v", c.seq, c.zone, c.gen, c.n, got, e, want)
		}
		if _, e := record.Encode(got); e != api.OK {
			t.Errorf("Make(%d, %d, %d, %#v) can't be encoded: %d", c.seq, c.zone, c.gen, c.n, e)
		}
	}
}

func expectNoRecord(t *testing.T, seq, zone, gen int, n Note) {
	t.Helper()
	if got, e := Make(seq, zone, gen, n); e != api.ErrArg || got != (record.Record{}) {
		t.Errorf("Make(%d, %d, %d, %d, %d, %d bytes) = %#v, %d", seq, zone, gen, n.Row, n.Count, len(n.Parity), got, e)
	}
}

// P14.1: ErrArg for each number that is negative or too great, alone and together.
func TestMakeWrongNumbers(t *testing.T) {
	for _, x := range wild {
		expectNoRecord(t, x, 2, 3, note(4, 5, 1))
		expectNoRecord(t, 1, 2, x, note(4, 5, 1))
		expectNoRecord(t, x, x, x, note(x, x, 1))
	}
	for _, x := range append([]int{maxSmall + 1, maxSmall + 2, 1 << 20, maxNumber}, wild...) {
		expectNoRecord(t, 1, x, 3, note(4, 5, 1))
		expectNoRecord(t, 1, 2, 3, note(x, 5, 1))
		expectNoRecord(t, 1, 2, 3, note(4, x, 1))
	}
}

// P14.1: ErrArg for a parity that does not have Block bytes.
func TestMakeWrongParity(t *testing.T) {
	for _, length := range []int{0, 1, 32, 63, 65, 127, 128, 4096} {
		expectNoRecord(t, 1, 2, 3, Note{Row: 4, Count: 5, Parity: strings.Repeat("x", length)})
	}
}

// P14.1: Of finds a note that was made, also after its record was encoded and decoded.
func TestOfMake(t *testing.T) {
	for _, n := range []Note{note(0, 1, 1), note(3, 2, 2), note(255, 15, 3), note(maxSmall, maxSmall, 4)} {
		for _, gen := range []int{0, 1, maxNumber} {
			for _, zone := range []int{0, 7, maxSmall} {
				x, _ := Make(11, zone, gen, n)
				s, _ := record.Encode(x)
				l, _ := record.Scan(s)
				expect(t, "of what was made", Of([]record.Record{x}, zone, gen), []Note{n})
				expect(t, "of what was decoded", Of(l, zone, gen), []Note{n})
			}
		}
	}
}

func expect(t *testing.T, what string, got, want []Note) {
	t.Helper()
	if !slices.Equal(got, want) {
		t.Fatalf("%s: %#v, want %#v", what, got, want)
	}
}

// P14.1: the Parities of a zone and a generation, in the order of the list and whatever their Seqs are; neither those of
// another zone or generation, nor other kinds.
func TestOf(t *testing.T) {
	a, b, c, d, e := note(4, 1, 1), note(4, 2, 2), note(1, 1, 3), note(0, 1, 4), note(4, 1, 5)
	l := []record.Record{
		recordOf(50, 2, 3, a),
		{Kind: record.Map, Seq: 51, A: 2, B: 4, C: 3, D: 1},
		recordOf(40, 2, 3, b),
		recordOf(52, 3, 2, d),
		{Kind: record.Member, Seq: 53, A: 2, B: 1, C: 3},
		recordOf(54, 2, 4, d),
		recordOf(30, 2, 3, c),
		{Kind: record.Cursor, Seq: 55, A: 2, B: 1, C: 3},
		recordOf(56, 1, 3, e),
		{Kind: record.Head, A: 2, C: 3},
		recordOf(57, 2, 3, a),
		{Kind: record.Done, A: 2, C: 3},
		{A: 2, C: 3},
		{Kind: 7, A: 2, C: 3},
		{Kind: -4, A: 2, C: 3},
	}
	expect(t, "2, 3", Of(l, 2, 3), []Note{a, b, c, a})
	expect(t, "3, 2", Of(l, 3, 2), []Note{d})
	expect(t, "2, 4", Of(l, 2, 4), []Note{d})
	expect(t, "1, 3", Of(l, 1, 3), []Note{e})
	for _, none := range [][2]int{{2, 2}, {3, 3}, {1, 1}, {0, 0}, {3, 4}, {1, 4}, {2, 1 << 40}, {-1, 3}, {2, -1}, {math.MaxInt, math.MinInt}, {math.MinInt, math.MaxInt}} {
		expect(t, "none", Of(l, none[0], none[1]), nil)
	}
}

// P14.1: no records, and records without notes.
func TestOfNone(t *testing.T) {
	for _, l := range [][]record.Record{nil, {}, {{Kind: record.Map}, {Kind: record.Cursor}}, {{}}} {
		expect(t, "none", Of(l, 0, 0), nil)
	}
}

// P14.1: zones and generations whose numbers are large or the same ones the other way round are told apart.
func TestOfApart(t *testing.T) {
	numbers := []int{0, 1, 2, 255, 256, 257, maxSmall - 1, maxSmall}
	gens := append([]int{maxSmall + 1, 1 << 32, maxNumber - 1, maxNumber}, numbers...)
	var l []record.Record
	for _, zone := range numbers {
		for _, gen := range gens {
			l = append(l, recordOf(1, zone, gen, note(zone, gen%7, gen)))
		}
	}
	for _, zone := range numbers {
		for _, gen := range gens {
			expect(t, "of each", Of(l, zone, gen), []Note{note(zone, gen%7, gen)})
		}
	}
}

// P14.1: many lists of records, held against a look at each record.
func TestOfMany(t *testing.T) {
	d := draws(3)
	for range 500 {
		var l []record.Record
		for seq := range d.next(40) {
			x := recordOf(seq, d.next(3), d.next(3), note(d.next(4), d.next(4), seq))
			if d.next(4) == 0 {
				x.Kind = d.next(9) - 1
			}
			l = append(l, x)
		}
		for zone := range 3 {
			for gen := range 3 {
				var want []Note
				for _, x := range l {
					if x.Kind == 4 && x.A == zone && x.C == gen {
						want = append(want, Note{Row: x.B, Count: x.D, Parity: x.Body})
					}
				}
				expect(t, "of many", Of(l, zone, gen), want)
			}
		}
	}
}

// P14.1: the records stay as they were, and what is returned is new each time.
func TestOfLeavesRecords(t *testing.T) {
	whole := []record.Record{recordOf(1, 0, 1, note(0, 1, 1)), recordOf(2, 0, 1, note(0, 2, 2)), recordOf(3, 0, 1, note(1, 1, 3)), recordOf(4, 0, 2, note(2, 1, 4))}
	l := slices.Clone(whole)
	want := []Note{note(0, 1, 1), note(0, 2, 2)}
	first, second := Of(l[:2], 0, 1), Of(l[:2], 0, 1)
	clear(first)
	expect(t, "the second list", second, want)
	expect(t, "the third list", Of(l[:2], 0, 1), want)
	if !slices.Equal(l, whole) {
		t.Error("the records were changed")
	}
}

// P14.2: of each row the last note in the list, whatever its Count is, in ascending order of the rows.
func TestLast(t *testing.T) {
	a, b, c, d, e := note(4, 1, 1), note(4, 2, 2), note(0, 3, 3), note(10, 1, 4), note(4, 2, 5)
	for _, k := range []struct{ l, want []Note }{
		{nil, nil},
		{[]Note{}, nil},
		{[]Note{a}, []Note{a}},
		{[]Note{a, b}, []Note{b}},
		{[]Note{b, a}, []Note{a}},
		{[]Note{a, a, a}, []Note{a}},
		{[]Note{b, e}, []Note{e}},
		{[]Note{e, b}, []Note{b}},
		{[]Note{a, c}, []Note{c, a}},
		{[]Note{d, b, c}, []Note{c, b, d}},
		{[]Note{a, d, b, c}, []Note{c, b, d}},
		{[]Note{b, c, a, d, c}, []Note{c, a, d}},
		{[]Note{{}}, []Note{{}}},
		{[]Note{a, {}}, []Note{{}, a}},
	} {
		expect(t, "Last", Last(k.l), k.want)
	}
}

// P14.2: rows of any numbers, which notes that were made by hand can have.
func TestLastWild(t *testing.T) {
	rows := append([]int{0, 1, 9, 10, 255, 256, maxSmall, 1 << 32}, wild...)
	var l []Note
	for i, row := range rows {
		l = append(l, note(row, 5, i))
	}
	for i, row := range rows {
		l = append(l, note(row, 1, 100+i))
	}
	want := slices.Clone(l[len(rows):])
	slices.SortFunc(want, func(a, b Note) int { return cmp.Compare(a.Row, b.Row) })
	expect(t, "Last", Last(l), want)
	slices.Reverse(l[len(rows):])
	expect(t, "Last in another order", Last(l), want)
}

// P14.2: many lists of notes, held against a look at each row.
func TestLastMany(t *testing.T) {
	d := draws(5)
	for range 2000 {
		var l []Note
		for i := range d.next(60) {
			l = append(l, note(d.next(25), d.next(15), i))
		}
		var want []Note
		for row := range 25 {
			for _, n := range slices.Backward(l) {
				if n.Row == row {
					want = append(want, n)
					break
				}
			}
		}
		expect(t, "Last of many", Last(l), want)
	}
}

// P14.2: the list stays as it was, with its spare capacity, and what is returned is new.
func TestLastLeavesList(t *testing.T) {
	whole := []Note{note(7, 1, 1), note(2, 1, 2), note(7, 2, 3), note(1, 1, 4), note(0, 1, 5)}
	for n := range len(whole) + 1 {
		l := slices.Clone(whole)
		clear(Last(l[:n]))
		if !slices.Equal(l, whole) {
			t.Fatalf("Last of %d changed the list", n)
		}
	}
}
