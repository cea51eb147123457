package book

import (
	"math"
	"math/rand"
	"slices"
	"testing"

	"corbel/api"
	"corbel/record"
)

// stated returns the records of used, with Seqs from 41 to 47.
func stated() []record.Record {
	l, _ := used().Records()
	return l
}

func expectRead(t *testing.T, what string, want Book, lists ...[]record.Record) {
	t.Helper()
	got, e := Read(small, lists...)
	if e != api.OK {
		t.Errorf("%s: %d", what, e)
	}
	expect(t, what, got, want)
}

func expectError(t *testing.T, what string, g api.Geometry, want api.Errno, lists ...[]record.Record) {
	t.Helper()
	if b, e := Read(g, lists...); e != want || !same(b, Book{}) {
		t.Errorf("%s: %+v, %d, want %d", what, b, e, want)
	}
}

// P10.2: a geometry that is not valid, whatever the lists are.
func TestReadGeometry(t *testing.T) {
	for _, g := range badGeometries {
		expectError(t, "no lists", g, api.ErrArg)
		expectError(t, "a book", g, api.ErrArg, stated())
		expectError(t, "half a book", g, api.ErrArg, nil, stated()[:3])
	}
}

// P10.2: the records may be in one list or in several, in any order.
func TestRead(t *testing.T) {
	want := used()
	want.Seq = 47
	l := stated()
	expectRead(t, "one list", want, l)
	expectRead(t, "several lists", want, nil, l[4:], []record.Record{}, l[:2], l[2:4], nil)
	expectRead(t, "twice", want, l, l)
	slices.Reverse(l)
	expectRead(t, "the last one first", want, l)
	if !slices.IsSortedFunc(l, func(a, b record.Record) int { return b.Seq - a.Seq }) {
		t.Error("the list was changed")
	}
	got, _ := Read(small, l)
	clear(got.Zones)
	clear(got.Members)
	expectRead(t, "again", want, l)
}

// P10.2: a record of each zone, of each slot and of the Cursor is necessary.
func TestReadMissing(t *testing.T) {
	expectError(t, "no lists", small, api.ErrCorrupt)
	expectError(t, "empty lists", small, api.ErrCorrupt, nil, nil)
	for i := range stated() {
		l := slices.Delete(stated(), i, i+1)
		expectError(t, "one is missing", small, api.ErrCorrupt, l)
		expectError(t, "one is missing", small, api.ErrCorrupt, l[:2], l, l[3:])
		x := stated()[i]
		for _, kind := range []int{record.Head, record.Done, record.Parity, 0, 7} {
			x.Kind = kind
			expectError(t, "another kind", small, api.ErrCorrupt, append(l, x))
		}
	}
	for _, g := range geometries {
		if g.Zones > small.Zones || g.Drives > small.Drives {
			expectError(t, "a book of a lesser geometry", g, api.ErrCorrupt, stated())
		}
	}
}

// P10.2: the greatest Seq decides, not the place.
func TestReadNewest(t *testing.T) {
	l := stated()
	for i, x := range []record.Record{mapOf(0, 1, 3, 8, 1), member(0, 0, 0), cursor(0, 0, 6), cursor(0, 65535, 0)} {
		for _, seq := range []int{1, 40, 48, 1 << 40} {
			x.Seq = seq
			want := used()
			if seq > 47 {
				want = want.Note(x)
			}
			want.Seq = max(seq, 47)
			one := []record.Record{x}
			for _, lists := range [][][]record.Record{{l, one}, {one, l}, {l[:3], one, l[3:]}, {append(slices.Clone(l), x)}, {append(one[:1:1], l...)}} {
				expectRead(t, "newest "+string(rune('a'+i)), want, lists...)
			}
		}
	}
}

// P10.2: of equal Seqs the first one counts, list by list.
func TestReadEqual(t *testing.T) {
	l := stated()
	for i, x := range l {
		y := x
		switch x.Kind {
		case record.Map:
			y.B, y.C, y.D = 3, x.C+1, (x.D+1)%3
		case record.Member:
			y.B = 0
		default:
			y.A, y.B = 2, 3
		}
		rest := slices.Delete(slices.Clone(l), i, i+1)
		want := used()
		want.Seq = 47
		expectRead(t, "the first", want, []record.Record{x, y}, rest)
		expectRead(t, "the first list", want, []record.Record{x}, rest, []record.Record{y})
		expectRead(t, "the first list", want, rest, []record.Record{x}, []record.Record{y})
		want = want.Note(y)
		expectRead(t, "the other first", want, []record.Record{y, x}, rest)
		expectRead(t, "the other list first", want, []record.Record{y}, rest, []record.Record{x})
	}
}

// P10.2: of Cursors one counts, whichever slots they are of.
func TestReadCursors(t *testing.T) {
	l := stated()[:6]
	for _, c := range []struct{ slots, cursors [3]int }{
		{[3]int{0, 1, 2}, [3]int{2, 3, 4}}, {[3]int{65535, 1, 65535}, [3]int{0, 5, 0}}, {[3]int{2, 2, 65535}, [3]int{3, 4, 0}},
	} {
		for newest := range 3 {
			var cursors []record.Record
			for i := range 3 {
				cursors = append(cursors, cursor(10+(i-newest+5)%3, c.slots[i], c.cursors[i]))
			}
			want := used().Note(cursor(46, c.slots[newest], c.cursors[newest]))
			expectRead(t, "Cursors", want, cursors, l)
		}
	}
}

// P10.2: the Seq is the greatest one of all records, also of those that are ignored otherwise.
func TestReadSeq(t *testing.T) {
	for _, x := range []record.Record{
		{Kind: record.Parity, Seq: 99, A: 1, B: 70, C: 7, D: 9},
		{Kind: record.Parity, Seq: 99, A: 77},
		{Kind: record.Head, Seq: 99}, {Kind: record.Done, Seq: 99}, {Kind: 0, Seq: 99}, {Kind: 9, Seq: 99},
		mapOf(99, 3, 99, 9, 9), mapOf(99, 65535, 2, 1, 0), mapOf(99, -1, 2, 1, 0), mapOf(99, math.MinInt, 4, 1, 0),
		member(99, 3, 9), member(99, 65535, 1), member(99, -1, 1), member(99, math.MaxInt, 1),
	} {
		want := used()
		want.Seq = 99
		expectRead(t, "ignored", want, stated(), []record.Record{x})
		expectRead(t, "ignored", want, []record.Record{x}, stated())
		x.Seq = 3
		want.Seq = 47
		expectRead(t, "ignored", want, []record.Record{x}, stated())
	}
	l := stated()
	for i := range l {
		l[i].Seq = 0
	}
	want := used()
	want.Seq = 0
	expectRead(t, "no Seqs", want, l)
}

// P10.2: numbers that are, and that are not, possible for a book, each in a record that is the newest one.
func TestReadPossible(t *testing.T) {
	for _, c := range []struct {
		name  string
		right []record.Record
		wrong []record.Record
	}{
		{"Phys", []record.Record{mapOf(48, 0, 3, 1, 0), mapOf(48, 2, 3, 1, 0), mapOf(48, 1, 2, 0, 0), mapOf(48, 2, 5, 1, 0)},
			[]record.Record{mapOf(48, 0, 0, 1, 0), mapOf(48, 1, 1, 1, 0), mapOf(48, 2, 6, 1, 0), mapOf(48, 0, 7, 1, 0), mapOf(48, 0, 65535, 1, 0), mapOf(48, 0, -1, 1, 0), mapOf(48, 0, math.MinInt, 1, 0), mapOf(48, 0, math.MaxInt, 1, 0)}},
		{"the same Phys", nil,
			[]record.Record{mapOf(48, 0, 2, 1, 0), mapOf(48, 1, 4, 7, 1), mapOf(48, 0, 5, 1<<40, 2), mapOf(48, 2, 4, 7, 1), mapOf(48, 2, 2, 9, 1), mapOf(48, 1, 5, 0, 0)}},
		{"Gen", []record.Record{mapOf(48, 0, 4, 0, 0), mapOf(48, 0, 4, 1<<40, 0)}, nil},
		{"State", []record.Record{mapOf(48, 0, 4, 1, 0), mapOf(48, 0, 4, 1, 1), mapOf(48, 0, 4, 1, 2)},
			[]record.Record{mapOf(48, 0, 4, 1, 3), mapOf(48, 2, 5, 1, 65535), mapOf(48, 0, 4, 1, -1), mapOf(48, 0, 4, 1, math.MaxInt)}},
		{"a drive", []record.Record{member(48, 0, 0), member(48, 1, 0), member(48, 1, 3), member(48, 2, 1), member(48, 0, 2)},
			[]record.Record{member(48, 0, 4), member(48, 2, 65535), member(48, 0, -1), member(48, 0, math.MaxInt), member(48, 0, math.MinInt)}},
		{"the same drive", nil, []record.Record{member(48, 0, 3), member(48, 1, 1), member(48, 2, 2), member(48, 0, 1), member(48, 2, 3)}},
		{"a Cursor", []record.Record{cursor(48, 0, 0), cursor(48, 2, 6), cursor(48, 1, 1), cursor(48, 65535, 0)},
			[]record.Record{cursor(48, 3, 0), cursor(48, 3, 3), cursor(48, 65534, 0), cursor(48, -1, 0), cursor(48, math.MaxInt, 0),
				cursor(48, 0, 7), cursor(48, 2, 65535), cursor(48, 1, -1), cursor(48, 1, math.MaxInt),
				cursor(48, 65535, 1), cursor(48, 65535, 6), cursor(48, 65535, 65535), cursor(48, 65535, -1)}},
	} {
		for _, x := range c.right {
			expectRead(t, c.name, used().Note(x), stated(), []record.Record{x})
		}
		for _, x := range c.wrong {
			expectError(t, c.name, small, api.ErrCorrupt, stated(), []record.Record{x})
			x.Seq = 1 // an older one does not matter
			want := used()
			want.Seq = 47
			expectRead(t, c.name, want, []record.Record{x}, stated())
		}
	}
}

// P10.2: zones, and slots, that exchange what they have.
func TestReadExchange(t *testing.T) {
	want := used()
	want.Zones[0].Phys, want.Zones[1].Phys, want.Members[0], want.Members[2] = 2, 4, 1, 2
	want.Seq = 51
	expectRead(t, "exchanged", want, stated(), []record.Record{mapOf(48, 0, 2, 7, 1), mapOf(49, 1, 4, 1, 0), member(50, 0, 1), member(51, 2, 2)})
}

// P10.2: the limits of the greatest geometry.
func TestReadGreatest(t *testing.T) {
	g := geometries[2]
	l, b := New(g).Records()
	for _, x := range []record.Record{mapOf(999, 60, 63, 1<<40, 2), member(999, 15, 16), cursor(999, 15, 64)} {
		if got, e := Read(g, l, []record.Record{x}); e != api.OK || !same(got, b.Note(x)) {
			t.Errorf("%+v: %+v, %d", x, got, e)
		}
	}
	for _, x := range []record.Record{mapOf(999, 60, 64, 1, 0), mapOf(999, 60, 2, 1, 0), member(999, 15, 17), member(999, 0, 15), cursor(999, 16, 0), cursor(999, 0, 65)} {
		expectError(t, "one more", g, api.ErrCorrupt, l, []record.Record{x})
	}
}

// read is P10.2, sentence by sentence.
func read(g api.Geometry, all []record.Record) (Book, bool) {
	b := Book{Slot: -1}
	find := func(kind, a int) (record.Record, bool) {
		best, ok := record.Record{}, false
		for _, x := range all {
			if x.Kind == kind && (a < 0 || x.A == a) && (!ok || x.Seq > best.Seq) {
				best, ok = x, true
			}
		}
		return best, ok
	}
	physical, drives := map[int]bool{}, map[int]bool{}
	for z := range g.Zones - 3 {
		x, ok := find(record.Map, z)
		if !ok || x.B < 2 || x.B >= g.Zones || physical[x.B] || x.D > 2 {
			return Book{}, false
		}
		physical[x.B] = true
		b.Zones = append(b.Zones, Zone{x.B, x.C, x.D})
	}
	for s := range g.Drives {
		x, ok := find(record.Member, s)
		if !ok || x.B > g.Drives || drives[x.B] {
			return Book{}, false
		}
		drives[x.B] = true
		b.Members = append(b.Members, x.B)
	}
	x, ok := find(record.Cursor, -1)
	if !ok || x.A >= g.Drives && x.A != 65535 || x.B > g.Zones || x.A == 65535 && x.B != 0 {
		return Book{}, false
	}
	if x.A != 65535 {
		b.Slot, b.Cursor = x.A, x.B
	}
	for _, x := range all {
		b.Seq = max(b.Seq, x.Seq)
	}
	return b, true
}

// P10.2: many lists of records, most of which state a book.
func TestReadModel(t *testing.T) {
	random := rand.New(rand.NewSource(1))
	g := geometries[1]
	books := 0
	for range 40000 {
		l, _ := New(g).Records()
		for range random.Intn(12) {
			l = append(l, someRecord(random))
		}
		random.Shuffle(len(l), func(i, j int) { l[i], l[j] = l[j], l[i] })
		if random.Intn(8) == 0 {
			l = l[:random.Intn(len(l)+1)]
		}
		cut := random.Intn(len(l) + 1)
		want, ok := read(g, l)
		got, e := Read(g, l[:cut], nil, l[cut:])
		if ok {
			books++
		}
		if ok != (e == api.OK) || !ok && e != api.ErrCorrupt || !same(got, want) {
			t.Fatalf("%+v: %+v, %d, want %+v, %v", l, got, e, want, ok)
		}
	}
	if books < 1000 || books > 39000 {
		t.Errorf("%d books", books)
	}
}

func someRecord(random *rand.Rand) record.Record {
	switch random.Intn(4) {
	case 0:
		return mapOf(random.Intn(20), random.Intn(3), 1+random.Intn(5), random.Intn(3), random.Intn(13)/4)
	case 1:
		return member(random.Intn(20), random.Intn(4), random.Intn(5))
	case 2:
		if random.Intn(3) == 0 {
			return cursor(random.Intn(20), 65535, random.Intn(10)/9)
		}
		return cursor(random.Intn(20), random.Intn(4), random.Intn(7))
	}
	return record.Record{Kind: random.Intn(8), Seq: random.Intn(20), A: random.Intn(3), B: 2 + random.Intn(2)}
}
