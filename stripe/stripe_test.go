package stripe

import (
	"math"
	"slices"
	"strings"
	"testing"

	"corbel/api"
)

// wild are numbers that are no index and no number of anything.
var wild = []int{-1, -2, -64, math.MinInt, math.MinInt + 1, 16, 17, 64, 1 << 20, 1 << 32, math.MaxInt - 1, math.MaxInt}

// wrongLengths are those that no block has.
var wrongLengths = []int{0, 1, 2, 32, 62, 63, 65, 66, 127, 128, 192, 4096}

// blockOf is a block of bytes that repeat in no short period; another one for each seed.
func blockOf(seed int) string {
	b := make([]byte, 64)
	turn := uint32(seed)*2654435761 + 12345
	for i := range b {
		turn = turn*1664525 + 1013904223
		b[i] = byte(turn >> 24)
	}
	return string(b)
}

func blocksOf(n, seed int) []string {
	l := make([]string, n)
	for i := range l {
		l[i] = blockOf(seed + i)
	}
	return l
}

// parityOf is the exclusive or of blocks, byte by byte.
func parityOf(blocks ...string) string {
	b := make([]byte, 64)
	for _, s := range blocks {
		for i := range b {
			b[i] ^= s[i]
		}
	}
	return string(b)
}

// rowOf is a row for so many blocks, to which some were added.
func rowOf(t *testing.T, size int, blocks ...string) Row {
	t.Helper()
	r, e := New(size)
	if e != api.OK {
		t.Fatalf("New(%d): %d", size, e)
	}
	for _, s := range blocks {
		r, e = r.Add(s)
		if e != api.OK {
			t.Fatalf("Add to a row for %d: %d", size, e)
		}
	}
	return r
}

// expectRow holds all that a row answers against its blocks.
func expectRow(t *testing.T, what string, r Row, size int, blocks ...string) {
	t.Helper()
	if r.Count() != len(blocks) || r.Full() != (len(blocks) == size) {
		t.Errorf("%s: Count %d and Full %v, want %d of %d", what, r.Count(), r.Full(), len(blocks), size)
	}
	for k, want := range blocks {
		if got, ok := r.Block(k); got != want || !ok {
			t.Errorf("%s: Block(%d) = %q, %v, want %q", what, k, got, ok, want)
		}
	}
	for _, k := range append([]int{len(blocks), len(blocks) + 1, size, size + 1, 14, 15}, wild...) {
		if k >= 0 && k < len(blocks) {
			continue
		}
		if got, ok := r.Block(k); got != "" || ok {
			t.Errorf("%s: Block(%d) = %q, %v beyond %d blocks", what, k, got, ok, len(blocks))
		}
	}
	if got := r.Parity(); got != parityOf(blocks...) {
		t.Errorf("%s: Parity = %q, want %q", what, got, parityOf(blocks...))
	}
}

// P11.1: New for each number that a row may be for.
func TestNew(t *testing.T) {
	for size := 2; size <= 15; size++ {
		r, e := New(size)
		if e != api.OK {
			t.Errorf("New(%d): %d", size, e)
		}
		expectRow(t, "New", r, size)
	}
}

// P11.1: New for other numbers.
func TestNewWrong(t *testing.T) {
	for _, size := range append([]int{0, 1}, wild...) {
		if r, e := New(size); e != api.ErrArg || r != (Row{}) {
			t.Errorf("New(%d) = %v, %d", size, r, e)
		}
	}
}

// P11.1: rows of each size, from the first block to the last.
func TestAdd(t *testing.T) {
	for size := 2; size <= 15; size++ {
		blocks := blocksOf(size, size*100)
		r := rowOf(t, size)
		for n, s := range blocks {
			before := r
			after, e := r.Add(s)
			if e != api.OK {
				t.Fatalf("Add of block %d of %d: %d", n, size, e)
			}
			expectRow(t, "the receiver", before, size, blocks[:n]...)
			expectRow(t, "Add", after, size, blocks[:n+1]...)
			r = after
		}
	}
}

// P11.1: blocks of equal bytes, and a block that is added twice.
func TestAddEqual(t *testing.T) {
	zero, ones := strings.Repeat("\x00", 64), strings.Repeat("\xff", 64)
	for _, l := range [][]string{{zero}, {ones}, {zero, zero}, {ones, ones}, {ones, ones, ones}, {zero, ones, zero}, {ones, zero, ones}} {
		expectRow(t, "Add", rowOf(t, 3, l...), 3, l...)
	}
}

// P11.1: a block that does not have Block bytes: ErrArg, also for a row that is full; and a block too many: ErrFull.
func TestAddWrong(t *testing.T) {
	for size := 2; size <= 15; size++ {
		blocks := blocksOf(size, 7)
		for n := range size + 1 {
			r := rowOf(t, size, blocks[:n]...)
			for _, length := range wrongLengths {
				if got, e := r.Add(strings.Repeat("x", length)); e != api.ErrArg || got != (Row{}) {
					t.Errorf("Add of %d bytes to %d blocks of %d = %v, %d", length, n, size, got, e)
				}
			}
			expectRow(t, "after errors", r, size, blocks[:n]...)
		}
		r := rowOf(t, size, blocks...)
		if got, e := r.Add(blockOf(1)); e != api.ErrFull || got != (Row{}) {
			t.Errorf("Add to a full row of %d = %v, %d", size, got, e)
		}
		expectRow(t, "after ErrFull", r, size, blocks...)
	}
}

// P11.1: several rows that are made of one do not disturb each other, nor it.
func TestRowIsValue(t *testing.T) {
	for size := 2; size <= 15; size++ {
		blocks := blocksOf(size, 11)
		for n := range size {
			r := rowOf(t, size, blocks[:n]...)
			a, _ := r.Add(blockOf(1000))
			b, _ := r.Add(blockOf(2000))
			if n+1 < size {
				if c, e := a.Add(blockOf(3000)); e != api.OK || c.Count() != n+2 {
					t.Errorf("Add to %d of %d: %d", n+1, size, e)
				}
			}
			expectRow(t, "the first", a, size, append(slices.Clone(blocks[:n]), blockOf(1000))...)
			expectRow(t, "the second", b, size, append(slices.Clone(blocks[:n]), blockOf(2000))...)
			expectRow(t, "the row", r, size, blocks[:n]...)
		}
	}
}

// P11.1: a zero Row is full without a block.
func TestZeroRow(t *testing.T) {
	var r Row
	expectRow(t, "a zero Row", r, 0)
	if got, e := r.Add(blockOf(1)); e != api.ErrFull || got != (Row{}) {
		t.Errorf("Add = %v, %d", got, e)
	}
	if got, e := r.Add("short"); e != api.ErrArg || got != (Row{}) {
		t.Errorf("Add of a short text = %v, %d", got, e)
	}
	if r.Parity() != strings.Repeat("\x00", 64) {
		t.Errorf("Parity = %q", r.Parity())
	}
}

// P11.2: each of some blocks is restored from the others and the parity; there may be more of them than a row has.
func TestRestore(t *testing.T) {
	for n := 1; n <= 40; n++ {
		blocks := blocksOf(n, n*50)
		parity := parityOf(blocks...)
		for wanting := range blocks {
			got, e := Restore(parity, blocks, wanting)
			if e != api.OK || got != blocks[wanting] {
				t.Errorf("Restore of %d of %d = %q, %d", wanting, n, got, e)
			}
		}
	}
}

// P11.2: what Row.Parity returns is a parity for Restore, also of a row that is not full.
func TestRestoreOfRow(t *testing.T) {
	for n := 1; n <= 5; n++ {
		blocks := blocksOf(n, 300)
		parity := rowOf(t, 5, blocks...).Parity()
		for wanting, want := range blocks {
			if got, e := Restore(parity, blocks, wanting); e != api.OK || got != want {
				t.Errorf("Restore of %d of %d = %q, %d", wanting, n, got, e)
			}
		}
	}
}

// P11.2: the text at wanting is ignored, whatever it is.
func TestRestoreIgnores(t *testing.T) {
	blocks := blocksOf(4, 60)
	parity := parityOf(blocks...)
	for _, length := range append([]int{64}, wrongLengths...) {
		for wanting := range blocks {
			l := slices.Clone(blocks)
			l[wanting] = strings.Repeat("y", length)
			if got, e := Restore(parity, l, wanting); e != api.OK || got != blocks[wanting] {
				t.Errorf("Restore of %d, of %d bytes = %q, %d", wanting, length, got, e)
			}
		}
	}
}

// P11.2: without others, the parity is what is wanting; a parity of other blocks still yields the exclusive or.
func TestRestoreFew(t *testing.T) {
	if got, e := Restore(blockOf(5), []string{""}, 0); e != api.OK || got != blockOf(5) {
		t.Errorf("of one = %q, %d", got, e)
	}
	if got, e := Restore(blockOf(5), []string{blockOf(6), "", blockOf(7)}, 1); e != api.OK || got != parityOf(blockOf(5), blockOf(6), blockOf(7)) {
		t.Errorf("of any = %q, %d", got, e)
	}
}

// P11.2: no such index, or a text that is no block.
func TestRestoreWrong(t *testing.T) {
	for n := range 5 {
		blocks := blocksOf(n, 80)
		parity := parityOf(blocks...)
		for _, wanting := range append([]int{n, n + 1}, wild...) {
			if got, e := Restore(parity, blocks, wanting); e != api.ErrArg || got != "" {
				t.Errorf("Restore of %d of %d = %q, %d", wanting, n, got, e)
			}
		}
		for wanting := range n {
			for _, length := range wrongLengths {
				wrong := strings.Repeat("z", length)
				if got, e := Restore(wrong, blocks, wanting); e != api.ErrArg || got != "" {
					t.Errorf("a parity of %d bytes = %q, %d", length, got, e)
				}
				for k := range n {
					l := slices.Clone(blocks)
					l[k] = wrong
					if got, e := Restore(parity, l, wanting); k != wanting && (e != api.ErrArg || got != "") {
						t.Errorf("block %d of %d bytes, wanting %d = %q, %d", k, length, wanting, got, e)
					}
				}
			}
		}
	}
	if got, e := Restore(blockOf(1), nil, 0); e != api.ErrArg || got != "" {
		t.Errorf("of none = %q, %d", got, e)
	}
}

// P11.2: the list that is passed stays as it was, with its spare capacity.
func TestRestoreLeavesList(t *testing.T) {
	whole := blocksOf(8, 90)
	for n := 1; n <= 8; n++ {
		for wanting := range n {
			l := slices.Clone(whole)
			Restore(parityOf(whole[:n]...), l[:n], wanting)
			if !slices.Equal(l, whole) {
				t.Fatalf("Restore of %d of %d changed the list", wanting, n)
			}
		}
	}
}

// P11.3: the pieces of a range.
func TestPieces(t *testing.T) {
	for _, c := range []struct {
		blocks, from, n int
		want            []Piece
	}{
		{2, 1, 3, []Piece{{0, 1, 1}, {1, 0, 2}}},
		{2, 0, 1, []Piece{{0, 0, 1}}},
		{2, 0, 2, []Piece{{0, 0, 2}}},
		{2, 0, 3, []Piece{{0, 0, 2}, {1, 0, 1}}},
		{2, 1, 1, []Piece{{0, 1, 1}}},
		{2, 1, 2, []Piece{{0, 1, 1}, {1, 0, 1}}},
		{2, 2, 2, []Piece{{1, 0, 2}}},
		{1, 3, 3, []Piece{{3, 0, 1}, {4, 0, 1}, {5, 0, 1}}},
		{4, 6, 1, []Piece{{1, 2, 1}}},
		{4, 6, 11, []Piece{{1, 2, 2}, {2, 0, 4}, {3, 0, 4}, {4, 0, 1}}},
		{15, 14, 17, []Piece{{0, 14, 1}, {1, 0, 15}, {2, 0, 1}}},
		{1000, 3, 5, []Piece{{0, 3, 5}}},
		{math.MaxInt, 3, 5, []Piece{{0, 3, 5}}},
		{math.MaxInt, 0, 1 << 40, []Piece{{0, 0, 1 << 40}}},
		{math.MaxInt, 1<<40 - 1, 1, []Piece{{0, 1<<40 - 1, 1}}},
	} {
		if got := Pieces(c.blocks, c.from, c.n); !slices.Equal(got, c.want) {
			t.Errorf("Pieces(%d, %d, %d) = %v, want %v", c.blocks, c.from, c.n, got, c.want)
		}
	}
}

// P11.3: the pieces as they follow from counting each block of a range.
func TestPiecesBlockByBlock(t *testing.T) {
	for blocks := 1; blocks <= 17; blocks++ {
		for from := range 40 {
			for n := 1; n <= 40; n++ {
				var want []Piece
				for i := from; i < from+n; i++ {
					if i == from || i%blocks == 0 {
						want = append(want, Piece{Row: i / blocks, First: i % blocks})
					}
					want[len(want)-1].Count++
				}
				if got := Pieces(blocks, from, n); !slices.Equal(got, want) {
					t.Fatalf("Pieces(%d, %d, %d) = %v, want %v", blocks, from, n, got, want)
				}
			}
		}
	}
}

// P11.3: the greatest ranges that there are.
func TestPiecesEnd(t *testing.T) {
	const end = 1 << 40
	for _, c := range []struct {
		blocks, from, n int
		want            []Piece
	}{
		{1, end - 1, 1, []Piece{{end - 1, 0, 1}}},
		{1, end - 2, 2, []Piece{{end - 2, 0, 1}, {end - 1, 0, 1}}},
		{2, end - 1, 1, []Piece{{end/2 - 1, 1, 1}}},
		{2, end - 3, 3, []Piece{{end/2 - 2, 1, 1}, {end/2 - 1, 0, 2}}},
		{end, 0, end, []Piece{{0, 0, end}}},
		{end - 1, 0, end, []Piece{{0, 0, end - 1}, {1, 0, 1}}},
		{end / 2, 1, end - 1, []Piece{{0, 1, end/2 - 1}, {1, 0, end / 2}}},
	} {
		if got := Pieces(c.blocks, c.from, c.n); !slices.Equal(got, c.want) {
			t.Errorf("Pieces(%d, %d, %d) = %v, want %v", c.blocks, c.from, c.n, got, c.want)
		}
		for _, n := range []int{c.n + 1, c.n + 2, end + 1, math.MaxInt - c.from, math.MaxInt} {
			if got := Pieces(c.blocks, c.from, n); len(got) != 0 {
				t.Errorf("Pieces(%d, %d, %d) = %v", c.blocks, c.from, n, got)
			}
		}
	}
}

// P11.3: numbers for which there are no pieces.
func TestPiecesWrong(t *testing.T) {
	const end = 1 << 40
	for _, c := range [][3]int{
		{0, 0, 1}, {-1, 0, 1}, {math.MinInt, 0, 1},
		{2, -1, 1}, {2, -1, 3}, {2, math.MinInt, 1}, {2, math.MinInt, math.MaxInt},
		{2, 0, 0}, {2, 1, 0}, {2, 5, -1}, {2, 5, -5}, {2, 5, math.MinInt},
		{2, end, 1}, {2, end + 1, 1}, {2, end + 1, 0}, {2, math.MaxInt, 1}, {2, math.MaxInt, math.MaxInt}, {2, 1, math.MaxInt},
		{math.MaxInt, end, 1}, {math.MaxInt, 1, end}, {math.MaxInt, 0, math.MaxInt},
	} {
		if got := Pieces(c[0], c[1], c[2]); len(got) != 0 {
			t.Errorf("Pieces(%d, %d, %d) = %v", c[0], c[1], c[2], got)
		}
	}
}
