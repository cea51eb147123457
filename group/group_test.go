package group

import (
	"math"
	"reflect"
	"slices"
	"strings"
	"testing"

	"corbel/api"
)

// Of a first block: the Seq, the number of entries, and the entries are in these places.
const (
	seqPlace     = 2
	countPlace   = 8
	entriesPlace = 9
)

// draws is a row of numbers that repeat in no short period.
type draws uint64

func (d *draws) next(n int) int {
	*d = *d*6364136223846793005 + 1442695040888963407
	return int(uint64(*d)>>33) % n
}

// block is the data of an entry; another one for each seed.
func block(seed int) string {
	d := draws(seed)
	b := make([]byte, 64)
	for i := range b {
		b[i] = byte(d.next(256))
	}
	return string(b)
}

// of returns a group of these entries, with data of their own.
func of(seq int, entries ...Entry) Group {
	g := Group{Seq: seq, Entries: entries}
	for i, x := range entries {
		data := ""
		if !x.Trim {
			data = block(seq + 100*i + x.Block)
		}
		g.Data = append(g.Data, data)
	}
	return g
}

// drawn returns a group that can be encoded, most often with great numbers.
func drawn(d *draws) Group {
	var l []Entry
	for range 1 + d.next(6) {
		x := Entry{Block: d.next(1 << 31), Trim: d.next(3) == 0}
		if d.next(4) == 0 {
			x.Block = d.next(3)
		}
		l = append(l, x)
	}
	return of(d.next(1<<30)<<10, l...)
}

// samples are groups of each number of entries and of many mixtures.
func samples() []Group {
	d := draws(1)
	l := []Group{
		of(0, Entry{}),
		of(0, Entry{Trim: true}),
		of(1<<40, Entry{Block: 1<<31 - 1}),
		of(1<<40, Entry{Block: 1<<31 - 1, Trim: true}),
		of(1, Entry{Block: 7}, Entry{Block: 7}, Entry{Block: 7, Trim: true}, Entry{Block: 7}),
	}
	for trims := range 1 << 6 {
		var entries []Entry
		for i := range 6 {
			entries = append(entries, Entry{Block: 1000 + i, Trim: trims>>i&1 == 1})
		}
		l = append(l, of(5, entries...))
	}
	for range 200 {
		l = append(l, drawn(&d))
	}
	return l
}

// bitwise is the checksum as the document of layer 2 tells it, in four bytes.
func bitwise(s string) string {
	r := uint32(0xffffffff)
	for i := range len(s) {
		r ^= uint32(s[i])
		for range 8 {
			out := r & 1
			r >>= 1
			if out == 1 {
				r ^= 0x82f63b78
			}
		}
	}
	return bytes32(^r)
}

func bytes32(n uint32) string {
	return string([]byte{byte(n >> 24), byte(n >> 16), byte(n >> 8), byte(n)})
}

// built returns the encoding whose first block begins with head, as the document tells it.
func built(head, data string) string {
	first := head + bitwise(head+data)
	return first + strings.Repeat("\x00", 64-len(first)) + data
}

// model is the encoding of a group that can be encoded, as the document tells it.
func model(g Group) string {
	head := "CG" + string([]byte{byte(g.Seq >> 40), byte(g.Seq >> 32)}) + bytes32(uint32(g.Seq))
	head += string([]byte{byte(len(g.Entries))})
	for _, x := range g.Entries {
		n := uint32(x.Block)
		if x.Trim {
			n += 1 << 31
		}
		head += bytes32(n)
	}
	return built(head, strings.Join(g.Data, ""))
}

func encode(t *testing.T, g Group) string {
	t.Helper()
	s, e := Encode(g)
	if e != api.OK {
		t.Fatalf("Encode of %+v: %d", g, e)
	}
	return s
}

func expectError(t *testing.T, s string, want api.Errno) {
	t.Helper()
	if g, n, e := Decode(s); g.Seq != 0 || len(g.Entries) != 0 || len(g.Data) != 0 || n != 0 || e != want {
		t.Errorf("Decode of %x = %+v, %d, %d, want %d", s, g, n, e, want)
	}
}

// with returns s with other bytes at an index.
func with(s string, at int, bytes string) string {
	return s[:at] + bytes + s[at+len(bytes):]
}

// resummed returns the encoding s of a group of so many entries with its checksum made right again.
func resummed(s string, entries int) string {
	at := entriesPlace + 4*entries
	return with(s, at, bitwise(s[:at]+s[64:]))
}

// P18.1: a block of its own, and one for each entry that is not a Trim, however many there are.
func TestBlocks(t *testing.T) {
	write, trim := Entry{Block: 3}, Entry{Block: 3, Trim: true}
	for _, c := range []struct {
		l    []Entry
		want int
	}{
		{nil, 1},
		{[]Entry{}, 1},
		{[]Entry{trim}, 1},
		{[]Entry{write}, 2},
		{[]Entry{write, trim}, 2},
		{[]Entry{trim, write}, 2},
		{[]Entry{write, write, write, write, write, write}, 7},
		{[]Entry{trim, trim, trim, trim, trim, trim}, 1},
		{[]Entry{trim, write, trim, write, trim, write}, 4},
		{slices.Repeat([]Entry{write}, 100), 101},
		{slices.Repeat([]Entry{write, trim}, 100), 101},
		{[]Entry{{Block: -1}, {Block: math.MinInt, Trim: true}, {Block: math.MaxInt}}, 3},
	} {
		if got := Blocks(c.l); got != c.want {
			t.Errorf("Blocks(%v) = %d, want %d", c.l, got, c.want)
		}
	}
}

// The document's example: a write and a trim have two blocks.
func TestExample(t *testing.T) {
	g := of(1, Entry{Block: 5}, Entry{Block: 6, Trim: true})
	s := encode(t, g)
	if Blocks(g.Entries) != 2 || len(s) != 128 {
		t.Errorf("%d, %d bytes", Blocks(g.Entries), len(s))
	}
	head := "CG\x00\x00\x00\x00\x00\x01\x02\x00\x00\x00\x05\x80\x00\x00\x06"
	if want := built(head, g.Data[0]); s != want {
		t.Errorf("%x, want %x", s, want)
	}
}

// P18.1, P18.2: each number in its place, in big-endian order, the data behind it, and back.
func TestEncoding(t *testing.T) {
	for _, c := range []struct {
		g    Group
		head string
	}{
		{of(0, Entry{}), "\x00\x00\x00\x00\x00\x00\x01\x00\x00\x00\x00"},
		{of(0, Entry{Trim: true}), "\x00\x00\x00\x00\x00\x00\x01\x80\x00\x00\x00"},
		{of(0x1213141516, Entry{Block: 0x21222324}), "\x00\x12\x13\x14\x15\x16\x01\x21\x22\x23\x24"},
		{of(0x1213141516, Entry{Block: 0x21222324, Trim: true}), "\x00\x12\x13\x14\x15\x16\x01\xa1\x22\x23\x24"},
		{of(1<<40, Entry{Block: 1<<31 - 1}, Entry{Block: 1<<31 - 1, Trim: true}), "\x01\x00\x00\x00\x00\x00\x02\x7f\xff\xff\xff\xff\xff\xff\xff"},
		{of(9, Entry{1, false}, Entry{2, true}, Entry{3, false}, Entry{4, true}, Entry{5, false}, Entry{6, false}),
			"\x00\x00\x00\x00\x00\x09\x06\x00\x00\x00\x01\x80\x00\x00\x02\x00\x00\x00\x03\x80\x00\x00\x04\x00\x00\x00\x05\x00\x00\x00\x06"},
	} {
		if s, want := encode(t, c.g), built("CG"+c.head, strings.Join(c.g.Data, "")); s != want {
			t.Errorf("Encode of %+v = %x, want %x", c.g, s, want)
		}
	}
	for _, g := range samples() {
		s := encode(t, g)
		if s != model(g) || len(s) != 64*Blocks(g.Entries) {
			t.Errorf("Encode of %+v = %x, want %x", g, s, model(g))
		}
		if got, n, e := Decode(s); !reflect.DeepEqual(got, g) || n != Blocks(g.Entries) || e != api.OK {
			t.Errorf("Decode of %x = %+v, %d, %d, want %+v", s, got, n, e, g)
		}
	}
}

func expectNoEncoding(t *testing.T, what string, g Group) {
	t.Helper()
	if s, e := Encode(g); s != "" || e != api.ErrArg {
		t.Errorf("%s: %d bytes, %d", what, len(s), e)
	}
}

// P18.1: ErrArg for a Seq beyond its limits.
func TestEncodeWrongSeq(t *testing.T) {
	for _, seq := range []int{-1, math.MinInt, math.MinInt + 1, -1 << 40, 1<<40 + 1, 1 << 41, 1 << 48, 1 << 56, math.MaxInt} {
		for _, g := range []Group{of(1, Entry{}), of(1, Entry{Trim: true})} {
			g.Seq = seq
			expectNoEncoding(t, "Seq", g)
		}
	}
}

// P18.1: ErrArg for no entries, and for more than six, Trims or not.
func TestEncodeWrongCount(t *testing.T) {
	expectNoEncoding(t, "no entries", Group{})
	expectNoEncoding(t, "no entries", Group{Seq: 1, Entries: []Entry{}, Data: []string{}})
	expectNoEncoding(t, "no entries, but data", Group{Seq: 1, Data: []string{block(1)}})
	for _, n := range []int{7, 8, 255, 256, 257, 262, 1000} {
		expectNoEncoding(t, "many writes", of(1, slices.Repeat([]Entry{{Block: 1}}, n)...))
		expectNoEncoding(t, "many trims", of(1, slices.Repeat([]Entry{{Block: 1, Trim: true}}, n)...))
	}
	for n := 1; n <= 6; n++ {
		encode(t, of(1, slices.Repeat([]Entry{{Block: 1}}, n)...))
	}
}

// P18.1: ErrArg for a Block beyond its limits, wherever it is.
func TestEncodeWrongBlock(t *testing.T) {
	for _, n := range []int{-1, math.MinInt, -1 << 31, 1 << 31, 1<<31 + 1, 1<<32 - 1, 1 << 32, 1<<32 + 1, math.MaxInt} {
		for i := range 6 {
			for _, trim := range []bool{false, true} {
				l := slices.Repeat([]Entry{{Block: 1}}, 6)
				l[i].Trim = trim
				g := of(1, l...)
				encode(t, g)
				g.Entries[i].Block = n
				expectNoEncoding(t, "Block", g)
			}
		}
	}
}

// P18.1: ErrArg for other data than the entries require.
func TestEncodeWrongData(t *testing.T) {
	write, trim := Entry{Block: 1}, Entry{Block: 2, Trim: true}
	long := strings.Repeat("x", 4096)
	for _, entries := range [][]Entry{{write}, {trim}, {write, trim}, {trim, write}, {write, write, write}} {
		g := of(1, entries...)
		n := len(entries)
		expectNoEncoding(t, "no data", Group{1, entries, nil})
		expectNoEncoding(t, "less data", Group{1, entries, g.Data[1:]})
		expectNoEncoding(t, "more data", Group{1, entries, append(slices.Clone(g.Data), "")})
		expectNoEncoding(t, "more data", Group{1, entries, append(slices.Clone(g.Data), block(1))})
		for i := range n {
			for _, length := range []int{0, 1, 63, 64, 65, 128, 4096} {
				if length == len(g.Data[i]) {
					continue
				}
				l := slices.Clone(g.Data)
				l[i] = long[:length]
				expectNoEncoding(t, "another length", Group{1, entries, l})
			}
		}
	}
	// The lengths are right together, but not each of them.
	expectNoEncoding(t, "shifted", Group{1, []Entry{write, write}, []string{long[:63], long[:65]}})
	expectNoEncoding(t, "exchanged", Group{1, []Entry{write, trim}, []string{"", block(1)}})
	expectNoEncoding(t, "all in one", Group{1, []Entry{write, write}, []string{long[:128], ""}})
}

// Encode leaves its argument as it was, with what lies behind the ends of its lists.
func TestEncodeKeeps(t *testing.T) {
	entries := []Entry{{1, false}, {2, true}, {3, false}}
	data := []string{block(1), "", "behind"}
	encode(t, Group{Seq: 4, Entries: entries[:2], Data: data[:2]})
	if entries[2] != (Entry{3, false}) || entries[0] != (Entry{1, false}) || data[2] != "behind" || data[0] != block(1) {
		t.Error(entries, data)
	}
}

// P18.2: what follows a group does not matter.
func TestDecodeBeginning(t *testing.T) {
	for _, g := range samples() {
		s := encode(t, g)
		for _, more := range []string{"\x00", "x", s, s[:50], strings.Repeat("\xff", 700)} {
			if got, n, e := Decode(s + more); !reflect.DeepEqual(got, g) || n != Blocks(g.Entries) || e != api.OK {
				t.Errorf("%+v with %d bytes behind: %+v, %d, %d", g, len(more), got, n, e)
			}
		}
	}
}

// P18.2: nothing, and a group that is not complete.
func TestDecodeShort(t *testing.T) {
	expectError(t, "", api.ErrNone)
	for _, g := range samples()[:40] {
		s := encode(t, g)
		for n := 1; n < len(s); n++ {
			expectError(t, s[:n], api.ErrForm)
		}
	}
	for n := 1; n < 500; n++ {
		expectError(t, strings.Repeat("\x00", n), api.ErrForm)
	}
}

// P18.2: a first block that is none, also where its checksum is right.
func TestDecodeForm(t *testing.T) {
	for _, g := range samples()[:30] {
		s, count := encode(t, g), len(g.Entries)
		for _, c := range []struct {
			at    int
			bytes string
		}{
			{0, "CB"}, {0, "DG"}, {0, "GC"}, {0, "cg"}, {0, "\x00\x00"}, {0, "CH"},
			{seqPlace, "\x01\x00\x00\x00\x00\x01"}, {seqPlace, "\x02\x00\x00\x00\x00\x00"}, {seqPlace, "\x80\x00\x00\x00\x00\x00"}, {seqPlace, "\xff\xff\xff\xff\xff\xff"},
			{countPlace, "\x00"}, {countPlace, "\x07"}, {countPlace, "\x08"}, {countPlace, "\x0d"}, {countPlace, "\x0e"}, {countPlace, "\x86"}, {countPlace, "\xff"},
		} {
			bad := with(s, c.at, c.bytes)
			expectError(t, bad, api.ErrForm)
			expectError(t, bad+strings.Repeat(s, 5), api.ErrForm)
			expectError(t, resummed(bad, count), api.ErrForm)
		}
		for at := entriesPlace + 4*count + 4; at < 64; at++ {
			for _, b := range []string{"\x01", "\x80", "\xff", "0"} {
				expectError(t, with(s, at, b), api.ErrForm)
				expectError(t, resummed(with(s, at, b), count), api.ErrForm)
			}
		}
		expectError(t, "x"+s, api.ErrForm)
	}
	expectError(t, strings.Repeat("\xff", 1024), api.ErrForm)
}

// P18.2: seven entries and none are not the form of a group, also if all else about them is right.
func TestDecodeCount(t *testing.T) {
	for _, n := range []int{0, 7, 8, 13} {
		head := "CG\x00\x00\x00\x00\x00\x01" + string([]byte{byte(n)})
		for range n {
			head += "\x80\x00\x00\x03"
		}
		if len(head) <= 60 {
			expectError(t, built(head, ""), api.ErrForm)
		}
	}
	expectError(t, built("CG\x00\x00\x00\x00\x00\x01\x07"+strings.Repeat("\x00\x00\x00\x03", 7), strings.Repeat(block(1), 7)), api.ErrForm)
}

// P18.2: a wrong checksum, by whichever byte it became wrong.
func TestDecodeSum(t *testing.T) {
	for _, g := range samples()[:30] {
		s, count := encode(t, g), len(g.Entries)
		sumPlace := entriesPlace + 4*count
		for at := range s {
			if at < seqPlace || at == countPlace || at >= sumPlace+4 && at < 64 {
				continue // another form
			}
			for _, by := range []byte{1, 2, 64, 128, 255} {
				bad := with(s, at, string([]byte{s[at] ^ by}))
				// Another Seq may be too great, and a write instead of a Trim not complete; with data behind it only the sum is wrong.
				want := api.ErrSum
				if at >= seqPlace && at < countPlace && tooGreat(bad) {
					want = api.ErrForm
				}
				expectError(t, bad+block(1), want)
			}
		}
		expectError(t, with(s, sumPlace, "\x00\x00\x00\x00"), api.ErrSum)
	}
}

// tooGreat reports whether the Seq of a first block is greater than there is one.
func tooGreat(s string) bool {
	return s[seqPlace:countPlace] > "\x01\x00\x00\x00\x00\x00"
}

// P18.2: data that were exchanged, or come from another group, are noticed.
func TestDecodeOtherData(t *testing.T) {
	g := of(3, Entry{Block: 1}, Entry{Block: 2})
	s := encode(t, g)
	expectError(t, s[:64]+s[128:192]+s[64:128], api.ErrSum)
	other := encode(t, of(4, Entry{Block: 1}, Entry{Block: 2}))
	expectError(t, s[:64]+other[64:], api.ErrSum)
	expectError(t, s[:128]+other[128:], api.ErrSum)
	expectError(t, s[:128]+strings.Repeat("\x00", 64), api.ErrSum)
}

// P18.2: of two faults, the one that is mentioned first.
func TestDecodeOrder(t *testing.T) {
	s := encode(t, of(3, Entry{Block: 1}, Entry{Block: 2}))
	wrong := with(s, entriesPlace+8, "\x00\x00\x00\x00")
	expectError(t, wrong, api.ErrSum)
	expectError(t, wrong[:191], api.ErrForm)
	expectError(t, wrong[:64], api.ErrForm)
	expectError(t, with(wrong, 0, "X"), api.ErrForm)
	expectError(t, with(wrong, 63, "X"), api.ErrForm)
}

// P18.2: whatever Decode accepts is the encoding of what it returns, whichever bytes were changed in whichever way.
func TestDecodeChanged(t *testing.T) {
	d := draws(7)
	accepted := 0
	for _, g := range samples() {
		s := encode(t, g)
		for range 200 {
			b := []byte(s)
			for range 1 + d.next(3) {
				at := d.next(len(b))
				if d.next(2) == 0 {
					at = d.next(16)
				}
				b[at] = byte(d.next(256))
			}
			bad := string(b)
			if n := int(bad[countPlace]); n <= 6 && d.next(2) == 0 {
				bad = resummed(bad, n)
			}
			got, n, e := Decode(bad)
			if e != api.OK {
				expectError(t, bad, e)
				continue
			}
			accepted++
			if again := encode(t, got); n != Blocks(got.Entries) || again != bad[:64*n] {
				t.Fatalf("Decode of %x = %+v, %d", bad, got, n)
			}
		}
	}
	if accepted == 0 {
		t.Error("no change was accepted")
	}
}

// What Decode returns is new: two results, and two lists of one, share nothing.
func TestDecodeNew(t *testing.T) {
	g := of(3, Entry{Block: 1}, Entry{Block: 2, Trim: true})
	s := encode(t, g)
	first, _, _ := Decode(s)
	first.Entries[0], first.Data[0] = Entry{Block: 9}, "other"
	if got, _, _ := Decode(s); !reflect.DeepEqual(got, g) {
		t.Errorf("%+v", got)
	}
	l, at := Scan(s + s)
	l[0].Entries[0], l[0].Data[0], at[0] = Entry{Block: 9}, "other", 5
	_, _ = append(l[0].Entries, Entry{Block: 8}), append(l[0].Data, "more")
	if !reflect.DeepEqual(l[1], g) || at[1] != 2 {
		t.Errorf("%+v, %v", l, at)
	}
}

func expectScan(t *testing.T, s string, want []Group) {
	t.Helper()
	var begins []int
	at := 0
	for _, g := range want {
		begins = append(begins, at)
		at += Blocks(g.Entries)
	}
	l, got := Scan(s)
	if !slices.Equal(got, begins) || len(l) != len(want) || len(want) > 0 && !reflect.DeepEqual(l, want) {
		t.Fatalf("Scan of %d bytes = %+v, %v, want %+v, %v", len(s), l, got, want, begins)
	}
}

// mixed are groups of several lengths.
func mixed() []Group {
	return []Group{
		of(1, Entry{Block: 1}),
		of(2, Entry{Block: 1, Trim: true}),
		of(2, Entry{Block: 3}, Entry{Block: 4}, Entry{Block: 5}, Entry{Block: 6}, Entry{Block: 7}, Entry{Block: 8}),
		of(1<<40, Entry{Block: 1<<31 - 1, Trim: true}, Entry{Block: 1<<31 - 1}),
		of(0, Entry{Trim: true}, Entry{Trim: true}),
		of(1, Entry{Block: 1}),
	}
}

func concatenated(t *testing.T, l []Group) string {
	t.Helper()
	s := ""
	for _, g := range l {
		s += encode(t, g)
	}
	return s
}

// P18.2: Scan goes up to the first error, whichever it is, and tells where each group begins.
func TestScan(t *testing.T) {
	l := mixed()
	if _, at := Scan(concatenated(t, l)); !slices.Equal(at, []int{0, 2, 3, 10, 12, 13}) {
		t.Error(at)
	}
	expectScan(t, "", nil)
	expectScan(t, "x", nil)
	expectScan(t, strings.Repeat("\x00", 640), nil)
	expectScan(t, "x"+concatenated(t, l), nil)
	expectScan(t, concatenated(t, l), l)
	one := encode(t, l[0])
	bad := []string{"x", strings.Repeat("\x00", 64), with(one, 16, "\x00\x00"), with(one, 100, "\x00"), one[:64], block(1)}
	for i := range l {
		for _, b := range bad {
			expectScan(t, concatenated(t, l[:i])+b+concatenated(t, l[i:]), l[:i])
		}
	}
}

// P18.2: of groups that were cut off anywhere, those that are complete.
func TestScanCut(t *testing.T) {
	l := mixed()
	s := concatenated(t, l)
	complete, end := 0, 0
	for n := range len(s) + 1 {
		if complete < len(l) && n == end+64*Blocks(l[complete].Entries) {
			end = n
			complete++
		}
		expectScan(t, s[:n], l[:complete])
	}
	if complete != len(l) {
		t.Errorf("%d of %d groups", complete, len(l))
	}
}

// P18.2: as many groups as the greatest zone of an array can have, and more.
func TestScanMany(t *testing.T) {
	d := draws(3)
	var l []Group
	for range 4000 {
		l = append(l, drawn(&d))
	}
	expectScan(t, concatenated(t, l), l)
}
