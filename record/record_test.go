package record

import (
	"math"
	"slices"
	"strings"
	"testing"

	"corbel/api"
)

// The numbers of records stand at these places of the first block.
const (
	markAt = 0
	kindAt = 2
	seqAt  = 3
	aAt    = 9
	bAt    = 11
	cAt    = 13
	dAt    = 19
	sumAt  = 21
	restAt = 25
)

var kinds = []int{Head, Done, Map, Parity, Member, Cursor}

// body is one block whose bytes all differ.
var body = func() string {
	b := make([]byte, api.Block)
	for i := range b {
		b[i] = byte(255 - 3*i)
	}
	return string(b)
}()

// of returns a record of that kind, with numbers that all differ in each of their bytes.
func of(kind int) Record {
	r := Record{Kind: kind, Seq: 0x1213141516, A: 0x2122, B: 0x3132, C: 0x4243444546, D: 0x5152}
	if kind == Parity {
		r.Body = body
	}
	return r
}

// greatest returns a record of that kind with the greatest numbers that there are.
func greatest(kind int) Record {
	r := of(kind)
	r.Seq, r.A, r.B, r.C, r.D = 1<<40, 65535, 65535, 1<<40, 65535
	return r
}

// bitwise is the checksum as the document of layer 2 tells it, in four bytes.
func bitwise(s string) string {
	r := uint32(0xffffffff)
	for i := range len(s) {
		r ^= uint32(s[i])
		for range 8 {
			out := r & 1
			r >>= 1
			if out == 1 {
				r ^= 0x82f63b78
			}
		}
	}
	r = ^r
	return string([]byte{byte(r >> 24), byte(r >> 16), byte(r >> 8), byte(r)})
}

// built returns the encoding that begins with those 21 bytes and has that Body.
func built(head, body string) string {
	return head + bitwise(head+body) + strings.Repeat("\x00", api.Block-restAt) + body
}

func encode(t *testing.T, r Record) string {
	t.Helper()
	s, e := Encode(r)
	if e != api.OK {
		t.Fatalf("Encode of %+v: %d", r, e)
	}
	return s
}

func expectEncoding(t *testing.T, r Record, want string) {
	t.Helper()
	if s, e := Encode(r); s != want || e != api.OK {
		t.Errorf("Encode of %+v = %x, %d, want %x", r, s, e, want)
	}
	if got, n, e := Decode(want); got != r || n != len(want)/api.Block || e != api.OK {
		t.Errorf("Decode of %x = %+v, %d, %d, want %+v", want, got, n, e, r)
	}
}

func expectError(t *testing.T, s string, want api.Errno) {
	t.Helper()
	if r, n, e := Decode(s); r != (Record{}) || n != 0 || e != want {
		t.Errorf("Decode of %x = %+v, %d, %d, want %d", s, r, n, e, want)
	}
}

// with returns s with other bytes at an index.
func with(s string, at int, bytes string) string {
	return s[:at] + bytes + s[at+len(bytes):]
}

// resummed returns the encoding s of a record with its checksum made right again.
func resummed(s string) string {
	return with(s, sumAt, bitwise(s[:sumAt]+s[api.Block:]))
}

// The numbers of kinds are the document's.
func TestKinds(t *testing.T) {
	if !slices.Equal(kinds, []int{1, 2, 3, 4, 5, 6}) {
		t.Error(kinds)
	}
}

// P6.1: two blocks for a Parity, one for the others, none for what is no kind.
func TestBlocks(t *testing.T) {
	for kind, want := range []int{0, 1, 1, 1, 2, 1, 1, 0, 0} {
		if got := Blocks(kind); got != want {
			t.Errorf("Blocks(%d) = %d", kind, got)
		}
	}
	for _, kind := range []int{-1, -4, 256 + 4, 1 << 32, 1<<32 + 4, math.MinInt, math.MaxInt} {
		if got := Blocks(kind); got != 0 {
			t.Errorf("Blocks(%d) = %d", kind, got)
		}
	}
}

// P6.1: the document's example.
func TestExample(t *testing.T) {
	s := encode(t, Record{Kind: Done, Seq: 1})
	if s != built("CB\x02\x00\x00\x00\x00\x00\x01"+strings.Repeat("\x00", 12), "") || len(s) != 64 || s[:3] != "\x43\x42\x02" {
		t.Errorf("%x", s)
	}
}

// P6.1, P6.2: each number in its place, in big-endian order, and back.
func TestEncoding(t *testing.T) {
	for _, kind := range kinds {
		k, b := string([]byte{byte(kind)}), of(kind).Body
		expectEncoding(t, Record{Kind: kind, Body: b}, built("CB"+k+strings.Repeat("\x00", 18), b))
		expectEncoding(t, of(kind), built("CB"+k+"\x00\x12\x13\x14\x15\x16\x21\x22\x31\x32\x00\x42\x43\x44\x45\x46\x51\x52", b))
		expectEncoding(t, greatest(kind), built("CB"+k+"\x01\x00\x00\x00\x00\x00\xff\xff\xff\xff\x01\x00\x00\x00\x00\x00\xff\xff", b))
	}
	for _, b := range []string{strings.Repeat("\x00", 64), strings.Repeat("\xff", 64), body} {
		expectEncoding(t, Record{Kind: Parity, Body: b}, built("CB\x04"+strings.Repeat("\x00", 18), b))
	}
}

// P6.1: ErrArg for what is no kind, for numbers beyond their limits, and for a Body that is too long or too short.
func TestEncodeWrong(t *testing.T) {
	var wrong []Record
	for _, kind := range []int{0, 7, 8, -1, -4, 255, 256 + 3, 256 + 4, 1<<32 + 1, math.MinInt, math.MaxInt} {
		wrong = append(wrong, Record{Kind: kind}, Record{Kind: kind, Body: body})
	}
	for _, kind := range kinds {
		for _, n := range []int{-1, -65536, math.MinInt, math.MinInt + 1, 1<<40 + 1, 1 << 41, 1 << 48, 1 << 56, math.MaxInt} {
			r := of(kind)
			wrong = append(wrong,
				Record{kind, n, r.A, r.B, r.C, r.D, r.Body},
				Record{kind, r.Seq, r.A, r.B, n, r.D, r.Body})
		}
		for _, n := range []int{-1, -65536, math.MinInt, 65536, 65537, 1 << 32, 1<<40 + 1, math.MaxInt} {
			r := of(kind)
			wrong = append(wrong,
				Record{kind, r.Seq, n, r.B, r.C, r.D, r.Body},
				Record{kind, r.Seq, r.A, n, r.C, r.D, r.Body},
				Record{kind, r.Seq, r.A, r.B, r.C, n, r.Body})
		}
		for _, b := range []string{"", "\x00", body[:63], body, body + "\x00", body + body} {
			if len(b) != (Blocks(kind)-1)*64 {
				wrong = append(wrong, Record{Kind: kind, Body: b})
			}
		}
	}
	for _, r := range wrong {
		if s, e := Encode(r); s != "" || e != api.ErrArg {
			t.Errorf("Encode of %+v = %x, %d", r, s, e)
		}
	}
}

// P6.2: what follows a record does not matter.
func TestDecodeBeginning(t *testing.T) {
	for _, kind := range kinds {
		s := encode(t, of(kind))
		for _, more := range []string{"", "\x00", "x", s, s[:50], strings.Repeat("\xff", 200)} {
			if r, n, e := Decode(s + more); r != of(kind) || n != Blocks(kind) || e != api.OK {
				t.Errorf("kind %d with %d bytes behind: %+v, %d, %d", kind, len(more), r, n, e)
			}
		}
	}
}

// P6.2: nothing, and a record that is not complete.
func TestDecodeShort(t *testing.T) {
	expectError(t, "", api.ErrNone)
	for _, kind := range kinds {
		s := encode(t, of(kind))
		for n := 1; n < len(s); n++ {
			expectError(t, s[:n], api.ErrForm)
			expectError(t, strings.Repeat("\x00", n), api.ErrForm)
		}
	}
}

// P6.2: a first block that is none, also where its checksum is right.
func TestDecodeForm(t *testing.T) {
	for _, kind := range kinds {
		s := encode(t, of(kind))
		for _, c := range []struct {
			at    int
			bytes string
		}{
			{markAt, "DB"}, {markAt, "CC"}, {markAt, "BC"}, {markAt, "cb"}, {markAt, "\x00\x00"},
			{kindAt, "\x00"}, {kindAt, "\x07"}, {kindAt, "\x83"}, {kindAt, "\x84"}, {kindAt, "\xff"},
			{seqAt, "\x01\x00\x00\x00\x00\x01"}, {seqAt, "\x02\x00\x00\x00\x00\x00"}, {seqAt, "\xff\xff\xff\xff\xff\xff"}, {seqAt, "\x80\x00\x00\x00\x00\x00"},
			{cAt, "\x01\x00\x00\x00\x00\x01"}, {cAt, "\x02\x00\x00\x00\x00\x00"}, {cAt, "\xff\xff\xff\xff\xff\xff"}, {cAt, "\x80\x00\x00\x00\x00\x00"},
		} {
			expectError(t, with(s, c.at, c.bytes), api.ErrForm)
			expectError(t, resummed(with(s, c.at, c.bytes)), api.ErrForm)
		}
		for at := restAt; at < api.Block; at++ {
			for _, b := range []string{"\x01", "\x80", "\xff", "0"} {
				expectError(t, with(s, at, b), api.ErrForm)
				expectError(t, with(with(s, at, b), sumAt, "\x00\x00\x00\x00"), api.ErrForm)
			}
		}
	}
	expectError(t, strings.Repeat("\x00", 64), api.ErrForm)
	expectError(t, strings.Repeat("\xff", 128), api.ErrForm)
	expectError(t, "x"+encode(t, of(Map)), api.ErrForm)
}

// P6.2: a wrong checksum, and a kind that has no Body, or lacks one, though all else is as it was.
func TestDecodeSum(t *testing.T) {
	for _, kind := range kinds {
		s := encode(t, of(kind))
		for at := sumAt; at < restAt; at++ {
			for by := 1; by < 256; by++ {
				expectError(t, with(s, at, string([]byte{s[at] ^ byte(by)})), api.ErrSum)
			}
		}
		for _, other := range kinds {
			if other == kind {
				continue
			}
			want := api.ErrSum
			if other == Parity {
				want = api.ErrForm
				expectError(t, with(s, kindAt, "\x04")+body, api.ErrSum)
			}
			expectError(t, with(s, kindAt, string([]byte{byte(other)})), want)
		}
	}
}

// P6.2: of two faults, the one that is mentioned first.
func TestDecodeOrder(t *testing.T) {
	s := encode(t, of(Parity))
	expectError(t, with(s, sumAt, "\x00\x00\x00\x00"), api.ErrSum)
	expectError(t, with(s, sumAt, "\x00\x00\x00\x00")[:127], api.ErrForm)
	expectError(t, with(s, sumAt, "\x00\x00\x00\x00")[:64], api.ErrForm)
	expectError(t, with(with(s, sumAt, "\x00\x00\x00\x00"), markAt, "X"), api.ErrForm)
}

func expectScan(t *testing.T, s string, want []Record) {
	t.Helper()
	total := 0
	for _, r := range want {
		total += Blocks(r.Kind)
	}
	if l, n := Scan(s); !slices.Equal(l, want) || n != total {
		t.Errorf("Scan of %d bytes = %+v, %d, want %+v, %d", len(s), l, n, want, total)
	}
}

// mixed are records of all kinds, in several orders.
var mixed = []Record{of(Head), of(Map), of(Parity), of(Parity), greatest(Member), of(Cursor), {Kind: Done}, of(Head), greatest(Parity), of(Done)}

func concatenated(t *testing.T, l []Record) string {
	t.Helper()
	s := ""
	for _, r := range l {
		s += encode(t, r)
	}
	return s
}

// P6.2: Scan goes up to the first error, whichever it is.
func TestScan(t *testing.T) {
	expectScan(t, "", nil)
	expectScan(t, "x", nil)
	expectScan(t, strings.Repeat("\x00", 640), nil)
	expectScan(t, "x"+concatenated(t, mixed), nil)
	expectScan(t, concatenated(t, mixed), mixed)
	bad := []string{
		"x", strings.Repeat("\x00", 64),
		with(encode(t, of(Map)), sumAt, "\x00"), with(encode(t, of(Parity)), 70, "\x00"),
		encode(t, of(Parity))[:64],
	}
	for i := range mixed {
		for _, b := range bad {
			expectScan(t, concatenated(t, mixed[:i])+b+concatenated(t, mixed[i:]), mixed[:i])
		}
	}
}

// P6.2: a list of many records.
func TestScanMany(t *testing.T) {
	var l []Record
	for i := range 2000 {
		r := of(kinds[i%len(kinds)])
		r.Seq = i
		l = append(l, r)
	}
	expectScan(t, concatenated(t, l), l)
}

// P6.3: of records that were truncated at any point, those that are complete.
func TestTruncated(t *testing.T) {
	s := concatenated(t, mixed)
	complete, end := 0, 0
	for n := range len(s) + 1 {
		if complete < len(mixed) && n == end+Blocks(mixed[complete].Kind)*api.Block {
			end = n
			complete++
		}
		expectScan(t, s[:n], mixed[:complete])
	}
	if complete != len(mixed) {
		t.Errorf("%d of %d records", complete, len(mixed))
	}
}

// P6.3: Decode notices each change of up to four consecutive bytes of the numbers, or of the Body.
func TestChanged(t *testing.T) {
	for _, kind := range kinds {
		for _, r := range []Record{of(kind), greatest(kind), {Kind: kind, Body: of(kind).Body}} {
			s := encode(t, r)
			expectNoticed(t, s, seqAt, sumAt)
			expectNoticed(t, s, api.Block, len(s))
		}
	}
}

// expectNoticed changes up to four bytes of s from an index on, all of them below an end.
func expectNoticed(t *testing.T, s string, from, end int) {
	t.Helper()
	for at := from; at < end; at++ {
		for _, by := range changes() {
			b := []byte(s)
			for i := range min(4, end-at) {
				b[at+i] ^= byte(by >> (8 * i))
			}
			if string(b) == s {
				continue
			}
			if r, n, e := Decode(string(b)); r != (Record{}) || n != 0 || e != api.ErrSum && e != api.ErrForm {
				t.Fatalf("%08x at %d of %x: %+v, %d, %d", by, at, s, r, n, e)
			}
			if l, n := Scan(string(b)); len(l) != 0 || n != 0 {
				t.Fatalf("%08x at %d of %x: Scan returns %+v, %d", by, at, s, l, n)
			}
		}
	}
}

// changes are each one of four bytes, each pair of bits of them, and many others.
func changes() []uint32 {
	l := []uint32{0xffffffff, 0x00ffffff, 0x0000ffff, 0x82f63b78, 0x1edc6f41}
	for by := range uint32(256) {
		for i := range 4 {
			l = append(l, by<<(8*i))
		}
	}
	for i := range 32 {
		for j := range i {
			l = append(l, 1<<i|1<<j)
		}
	}
	turn := uint32(1)
	for range 300 {
		turn = turn*1664525 + 1013904223
		l = append(l, turn)
	}
	return l
}
