package drive

import (
	"math"
	"slices"
	"strings"
	"testing"

	"corbel/api"
	"corbel/zone"
)

// wild are numbers that are no index and no number of anything.
var wild = []int{-1, -2, math.MinInt, math.MinInt + 1, 1 << 20, 1 << 32, math.MaxInt - 1, math.MaxInt}

// The kinds of commands that write nothing, and some that there are not.
var others = []int{zone.Reset, zone.Finish, zone.Open, zone.Close, zone.Read, 0, 8, -1, math.MinInt, math.MaxInt}

// fill returns a block of each of the letters.
func fill(letters string) string {
	s := ""
	for i := range len(letters) {
		s += strings.Repeat(letters[i:i+1], api.Block)
	}
	return s
}

func newDrive(t *testing.T, zones, blocks, open, active int) *Drive {
	t.Helper()
	d, e := New(zones, blocks, open, active)
	if e != api.OK || d == nil {
		t.Fatalf("New(%d, %d, %d, %d): %d", zones, blocks, open, active, e)
	}
	return d
}

// appendTo appends a block of each of the letters to a zone.
func appendTo(t *testing.T, d *Drive, z int, letters string) {
	t.Helper()
	before, _ := d.Zone(z)
	expect(t, d, zone.Command{Kind: zone.Append, Zone: z, N: len(letters)}, fill(letters), "", before.Length, api.OK)
}

func flush(t *testing.T, d *Drive) {
	t.Helper()
	if e := d.Flush(); e != api.OK {
		t.Fatalf("Flush: %d", e)
	}
}

// expect executes a command, of which the results are to be these.
func expect(t *testing.T, d *Drive, c zone.Command, data, want string, at int, e api.Errno) {
	t.Helper()
	if s, i, got := d.Do(c, data); s != want || i != at || got != e {
		t.Errorf("%+v with %d bytes = %q, %d, %d, want %q, %d, %d", c, len(data), s, i, got, want, at, e)
	}
}

// expectZone examines the state of a zone, its blocks, which are those of the letters, and how many are durable.
func expectZone(t *testing.T, d *Drive, z, state int, letters string, lasts int) {
	t.Helper()
	want := zone.Zone{State: state, Length: len(letters)}
	if got, ok := d.Zone(z); got != want || !ok {
		t.Errorf("zone %d is %v, %v, want %v", z, got, ok, want)
	}
	if n := d.Lasts(z); n != lasts {
		t.Errorf("%d blocks of zone %d last, want %d", n, z, lasts)
	}
	if d.Dead() {
		return
	}
	for at := range letters {
		for n := 1; n <= len(letters)-at; n++ {
			expect(t, d, zone.Command{Kind: zone.Read, Zone: z, At: at, N: n}, "", fill(letters[at:at+n]), at, api.OK)
		}
	}
	expect(t, d, zone.Command{Kind: zone.Read, Zone: z, N: len(letters) + 1}, "", "", 0, api.ErrRange)
	expect(t, d, zone.Command{Kind: zone.Read, Zone: z, At: len(letters), N: 1}, "", "", 0, api.ErrRange)
}

// P7.1: New returns the error of layer 5, or a drive with that many zones.
func TestNew(t *testing.T) {
	sizes := append([]int{0, 1, 2, 3, 63, 64, 65, 4095, 4096, 4097}, wild...)
	for _, zones := range sizes {
		for _, blocks := range sizes {
			for _, open := range sizes {
				for _, active := range sizes {
					d, e := New(zones, blocks, open, active)
					if _, want := zone.New(zones, blocks, open, active); e != want || (d != nil) != (want == api.OK) {
						t.Fatalf("New(%d, %d, %d, %d): %v, %d, want %d", zones, blocks, open, active, d, e, want)
					}
				}
			}
		}
	}
	d := newDrive(t, 3, 4, 1, 2)
	for z := range 3 {
		expectZone(t, d, z, zone.Empty, "", 0)
	}
	if _, ok := d.Zone(3); ok || d.Dead() {
		t.Error("a zone 3, or dead")
	}
}

// P7.1: the zones have the number of blocks, and the limits, that New was given.
func TestLimits(t *testing.T) {
	d := newDrive(t, 3, 4, 1, 2)
	expect(t, d, zone.Command{Kind: zone.Append, N: 5}, fill("abcde"), "", 0, api.ErrRange)
	appendTo(t, d, 0, "abc")
	expect(t, d, zone.Command{Kind: zone.Open, Zone: 1}, "", "", 0, api.OK)
	expectZone(t, d, 0, zone.Closed, "abc", 0)
	expect(t, d, zone.Command{Kind: zone.Append, Zone: 0, N: 1}, fill("d"), "", 0, api.ErrLimit)
	expect(t, d, zone.Command{Kind: zone.Close, Zone: 1}, "", "", 0, api.OK)
	appendTo(t, d, 1, "A")
	expect(t, d, zone.Command{Kind: zone.Append, Zone: 2, N: 1}, fill("x"), "", 0, api.ErrLimit)
	appendTo(t, d, 0, "d")
	expectZone(t, d, 0, zone.Full, "abcd", 0)
	expectZone(t, d, 1, zone.Closed, "A", 0)
	expectZone(t, d, 2, zone.Empty, "", 0)
}

// P7.1: what was written is read, from any block on, also bytes that no text has.
func TestContent(t *testing.T) {
	d := newDrive(t, 2, 6, 2, 2)
	expect(t, d, zone.Command{Kind: zone.Write, Zone: 1, At: 0, N: 2}, fill("ab"), "", 0, api.OK)
	expect(t, d, zone.Command{Kind: zone.Append, Zone: 0, At: 77, N: 1}, fill("A"), "", 0, api.OK)
	expect(t, d, zone.Command{Kind: zone.Write, Zone: 1, At: 2, N: 1}, fill("c"), "", 2, api.OK)
	expect(t, d, zone.Command{Kind: zone.Append, Zone: 1, At: -1, N: 2}, fill("\x00\xff"), "", 3, api.OK)
	expect(t, d, zone.Command{Kind: zone.Append, Zone: 0, N: 2}, fill("BC"), "", 1, api.OK)
	expect(t, d, zone.Command{Kind: zone.Write, Zone: 1, At: 5, N: 1}, fill("f"), "", 5, api.OK)
	expectZone(t, d, 0, zone.Implicit, "ABC", 0)
	expectZone(t, d, 1, zone.Full, "abc\x00\xfff", 0)
}

// P7.1: what was read stays as it was, whatever becomes of the zone.
func TestReadIsOwn(t *testing.T) {
	d := newDrive(t, 1, 4, 1, 1)
	appendTo(t, d, 0, "abc")
	s, _, _ := d.Do(zone.Command{Kind: zone.Read, N: 3}, "")
	d.Lose(nil)
	appendTo(t, d, 0, "xyz")
	expectZone(t, d, 0, zone.Implicit, "xyz", 0)
	if s != fill("abc") {
		t.Errorf("what was read became %q", s)
	}
}

// P7.1: data that does not have the length for the command is ErrArg, whatever else is wrong.
func TestData(t *testing.T) {
	d := newDrive(t, 2, 4, 1, 1)
	appendTo(t, d, 0, "ab")
	for _, kind := range []int{zone.Write, zone.Append} {
		for _, z := range append([]int{0, 1, 2}, wild...) {
			for _, length := range []int{0, 1, 63, 64, 65, 127, 128, 129, 192, 256, 320} {
				for _, n := range append([]int{0, 1, 2, 3, 4, 5, 63, 64, 128, 1 << 58, 1<<58 + 1, 1<<62 + 2}, wild...) {
					if n >= 0 && length%64 == 0 && length/64 == n || n < 0 && length == 0 {
						continue
					}
					expect(t, d, zone.Command{Kind: kind, Zone: z, At: 9, N: n}, strings.Repeat("x", length), "", 0, api.ErrArg)
				}
			}
		}
	}
	for _, kind := range others {
		for _, z := range append([]int{0, 1, 2}, wild...) {
			for _, n := range append([]int{0, 1, 2}, wild...) {
				expect(t, d, zone.Command{Kind: kind, Zone: z, N: n}, fill("x"), "", 0, api.ErrArg)
				expect(t, d, zone.Command{Kind: kind, Zone: z, N: n}, "x", "", 0, api.ErrArg)
			}
		}
	}
	expectZone(t, d, 0, zone.Implicit, "ab", 0)
	expectZone(t, d, 1, zone.Empty, "", 0)
}

// P7.1: the errors of layer 5, and data of a number of blocks that is 0 or negative. Nothing changes.
func TestErrors(t *testing.T) {
	d := newDrive(t, 3, 4, 1, 1)
	appendTo(t, d, 0, "ab")
	expect(t, d, zone.Command{Kind: zone.Open, Zone: 0}, "", "", 0, api.OK)
	flush(t, d)
	expect(t, d, zone.Command{Kind: zone.Finish, Zone: 2}, "", "", 0, api.OK)
	for _, c := range []struct {
		zone.Command
		data string
		want api.Errno
	}{
		{zone.Command{Kind: zone.Write, Zone: 0, At: 1, N: 1}, fill("x"), api.ErrState},
		{zone.Command{Kind: zone.Write, Zone: 0, At: 3, N: 1}, fill("x"), api.ErrState},
		{zone.Command{Kind: zone.Write, Zone: 0, At: 2, N: 3}, fill("xyz"), api.ErrRange},
		{zone.Command{Kind: zone.Write, Zone: 0, At: -1, N: 1}, fill("x"), api.ErrRange},
		{zone.Command{Kind: zone.Write, Zone: 0, At: 2, N: 0}, "", api.ErrRange},
		{zone.Command{Kind: zone.Write, Zone: 0, At: 2, N: -1}, "", api.ErrRange},
		{zone.Command{Kind: zone.Write, Zone: 0, At: 2, N: math.MinInt}, "", api.ErrRange},
		{zone.Command{Kind: zone.Write, Zone: 2, At: 0, N: 1}, fill("x"), api.ErrFull},
		{zone.Command{Kind: zone.Write, Zone: 3, At: 0, N: 1}, fill("x"), api.ErrRange},
		{zone.Command{Kind: zone.Append, Zone: 0, N: 3}, fill("xyz"), api.ErrRange},
		{zone.Command{Kind: zone.Append, Zone: 0, N: 0}, "", api.ErrRange},
		{zone.Command{Kind: zone.Append, Zone: 0, N: -5}, "", api.ErrRange},
		{zone.Command{Kind: zone.Append, Zone: 1, N: 1}, fill("x"), api.ErrLimit},
		{zone.Command{Kind: zone.Append, Zone: 2, N: 1}, fill("x"), api.ErrFull},
		{zone.Command{Kind: zone.Append, Zone: -1, N: 1}, fill("x"), api.ErrRange},
		{zone.Command{Kind: zone.Open, Zone: 2}, "", api.ErrFull},
		{zone.Command{Kind: zone.Close, Zone: 1}, "", api.ErrState},
		{zone.Command{Kind: zone.Reset, Zone: 3}, "", api.ErrRange},
		{zone.Command{Kind: zone.Finish, Zone: math.MaxInt}, "", api.ErrRange},
		{zone.Command{Kind: zone.Read, Zone: 0, At: 0, N: 0}, "", api.ErrRange},
		{zone.Command{Kind: zone.Read, Zone: 0, At: math.MaxInt, N: math.MaxInt}, "", api.ErrRange},
		{zone.Command{Kind: zone.Read, Zone: 2, At: 0, N: 1}, "", api.ErrRange},
		{zone.Command{Kind: 0, Zone: 9}, "", api.ErrArg},
		{zone.Command{Kind: 8}, "", api.ErrArg},
	} {
		expect(t, d, c.Command, c.data, "", 0, c.want)
	}
	expectZone(t, d, 0, zone.Explicit, "ab", 2)
	expectZone(t, d, 1, zone.Empty, "", 0)
	expectZone(t, d, 2, zone.Full, "", 0)
}

// P7.1: after a Reset no block of the zone exists or is durable.
func TestReset(t *testing.T) {
	d := newDrive(t, 2, 4, 2, 2)
	appendTo(t, d, 0, "ab")
	appendTo(t, d, 1, "ABC")
	flush(t, d)
	appendTo(t, d, 0, "c")
	expect(t, d, zone.Command{Kind: zone.Reset, Zone: 0, At: 1, N: 1}, "", "", 0, api.OK)
	expectZone(t, d, 0, zone.Empty, "", 0)
	expectZone(t, d, 1, zone.Implicit, "ABC", 3)
	appendTo(t, d, 0, "xyz")
	expectZone(t, d, 0, zone.Implicit, "xyz", 0)
	d.Lose(nil)
	expectZone(t, d, 0, zone.Empty, "", 0)
	expectZone(t, d, 1, zone.Closed, "ABC", 3)
}

// P7.1: after a Finish all written blocks of the zone, and of no other one, are durable, also of a zone that was Full.
func TestFinish(t *testing.T) {
	d := newDrive(t, 4, 4, 4, 4)
	appendTo(t, d, 0, "ab")
	appendTo(t, d, 1, "ABCD")
	appendTo(t, d, 3, "xy")
	expectZone(t, d, 1, zone.Full, "ABCD", 0)
	for z := range 3 {
		expect(t, d, zone.Command{Kind: zone.Finish, Zone: z}, "", "", 0, api.OK)
	}
	expectZone(t, d, 0, zone.Full, "ab", 2)
	expectZone(t, d, 1, zone.Full, "ABCD", 4)
	expectZone(t, d, 2, zone.Full, "", 0)
	expectZone(t, d, 3, zone.Implicit, "xy", 0)
	d.Lose([]int{0})
	expectZone(t, d, 0, zone.Full, "ab", 2)
	expectZone(t, d, 1, zone.Full, "ABCD", 4)
	expectZone(t, d, 2, zone.Full, "", 0)
	expectZone(t, d, 3, zone.Empty, "", 0)
}

// P7.2: a Flush makes the written blocks of all zones durable, and no later one. Nothing else does, but a Finish.
func TestFlush(t *testing.T) {
	d := newDrive(t, 3, 4, 2, 2)
	flush(t, d)
	appendTo(t, d, 0, "ab")
	appendTo(t, d, 2, "ABCD")
	flush(t, d)
	expectZone(t, d, 0, zone.Implicit, "ab", 2)
	expectZone(t, d, 1, zone.Empty, "", 0)
	expectZone(t, d, 2, zone.Full, "ABCD", 4)
	appendTo(t, d, 0, "c")
	appendTo(t, d, 1, "x")
	expect(t, d, zone.Command{Kind: zone.Open, Zone: 1}, "", "", 0, api.OK)
	expect(t, d, zone.Command{Kind: zone.Close, Zone: 0}, "", "", 0, api.OK)
	expectZone(t, d, 0, zone.Closed, "abc", 2)
	expectZone(t, d, 1, zone.Explicit, "x", 0)
	flush(t, d)
	expectZone(t, d, 0, zone.Closed, "abc", 3)
	expectZone(t, d, 1, zone.Explicit, "x", 1)
}

// P7.2: of a zone that does not exist there is nothing.
func TestNoZone(t *testing.T) {
	d := newDrive(t, 2, 4, 2, 2)
	appendTo(t, d, 0, "ab")
	appendTo(t, d, 1, "ab")
	flush(t, d)
	for _, z := range append([]int{2, 3, 63, 64}, wild...) {
		if got, ok := d.Zone(z); got != (zone.Zone{}) || ok || d.Lasts(z) != 0 {
			t.Errorf("zone %d is %v, %v, and %d blocks last", z, got, ok, d.Lasts(z))
		}
	}
}

// P7.3: the example of the chapter, and further numbers for one zone with three blocks that are not durable.
func TestLose(t *testing.T) {
	for _, c := range []struct{ n, remain int }{
		{0, 2}, {1, 3}, {2, 4}, {3, 5}, {4, 2}, {5, 3}, {7, 5}, {8, 2},
		{-1, 2}, {-2, 3}, {-3, 4}, {-4, 5}, {-5, 2}, {-6, 3},
		{math.MaxInt, 5}, {math.MaxInt - 1, 4}, {math.MinInt, 5}, {math.MinInt + 1, 4}, // the remainder of MaxInt divided by 4 is 3
	} {
		d := newDrive(t, 1, 8, 1, 1)
		appendTo(t, d, 0, "ab")
		flush(t, d)
		appendTo(t, d, 0, "cde")
		d.Lose([]int{c.n})
		expectZone(t, d, 0, zone.Closed, "abcde"[:c.remain], c.remain)
		d.Lose([]int{0})
		expectZone(t, d, 0, zone.Closed, "abcde"[:c.remain], c.remain)
		appendTo(t, d, 0, "x")
		expectZone(t, d, 0, zone.Implicit, "abcde"[:c.remain]+"x", c.remain)
	}
}

// P7.3: each zone has its element of keep, at its index modulo the length.
func TestLoseElements(t *testing.T) {
	for _, c := range []struct {
		keep   []int
		remain [4]int
	}{
		{nil, [4]int{0, 0, 0, 0}},
		{[]int{}, [4]int{0, 0, 0, 0}},
		{[]int{2}, [4]int{2, 2, 2, 2}},
		{[]int{1, 3}, [4]int{1, 3, 1, 3}},
		{[]int{3, 0, -2}, [4]int{3, 0, 1, 3}},
		{[]int{0, 1, 2, 3}, [4]int{0, 1, 2, 3}},
		{[]int{3, 2, 1, 0, 9, 9, 9}, [4]int{3, 2, 1, 0}},
	} {
		d := newDrive(t, 4, 6, 4, 4)
		for z := range 4 {
			appendTo(t, d, z, "abc")
		}
		given := slices.Clone(c.keep)
		d.Lose(c.keep)
		if !slices.Equal(c.keep, given) {
			t.Errorf("Lose changed its list %v", given)
		}
		clear(c.keep)
		for z, n := range c.remain {
			state := zone.Closed
			if n == 0 {
				state = zone.Empty
			}
			expectZone(t, d, z, state, "abc"[:n], n)
		}
	}
}

// P7.3: the states of the zones afterwards, with durable and other blocks.
func TestLoseStates(t *testing.T) {
	d := newDrive(t, 6, 4, 6, 6)
	appendTo(t, d, 0, "abc")
	flush(t, d)
	appendTo(t, d, 0, "d")
	appendTo(t, d, 1, "abcd")
	appendTo(t, d, 2, "ab")
	expect(t, d, zone.Command{Kind: zone.Open, Zone: 2}, "", "", 0, api.OK)
	appendTo(t, d, 3, "a")
	expect(t, d, zone.Command{Kind: zone.Open, Zone: 4}, "", "", 0, api.OK)
	appendTo(t, d, 5, "abcd")
	d.Lose([]int{0, 4, 1, 0, 9, 0})
	expectZone(t, d, 0, zone.Closed, "abc", 3)
	expectZone(t, d, 1, zone.Full, "abcd", 4)
	expectZone(t, d, 2, zone.Closed, "a", 1)
	expectZone(t, d, 3, zone.Empty, "", 0)
	expectZone(t, d, 4, zone.Empty, "", 0)
	expectZone(t, d, 5, zone.Empty, "", 0)
}

// P7.1 to P7.3: a drive that died returns ErrDead, whatever else is wrong, and permanently. Its zones are told, and lose power.
func TestDie(t *testing.T) {
	d := newDrive(t, 2, 4, 2, 2)
	appendTo(t, d, 0, "ab")
	flush(t, d)
	appendTo(t, d, 0, "c")
	appendTo(t, d, 1, "A")
	if d.Dead() {
		t.Error("dead")
	}
	d.Die()
	refuse := func() {
		t.Helper()
		for kind := -1; kind <= 9; kind++ {
			for _, data := range []string{"", "x", fill("x")} {
				for _, z := range []int{-1, 0, 1, 2} {
					expect(t, d, zone.Command{Kind: kind, Zone: z, N: 1}, data, "", 0, api.ErrDead)
				}
			}
		}
		if e := d.Flush(); e != api.ErrDead || !d.Dead() {
			t.Errorf("Flush: %d, Dead: %v", e, d.Dead())
		}
	}
	refuse()
	expectZone(t, d, 0, zone.Implicit, "abc", 2)
	expectZone(t, d, 1, zone.Implicit, "A", 0)
	d.Lose([]int{0, 1})
	refuse()
	expectZone(t, d, 0, zone.Closed, "ab", 2)
	expectZone(t, d, 1, zone.Closed, "A", 1)
	d.Die()
	refuse()
	if _, ok := d.Zone(2); ok {
		t.Error("a zone 2")
	}
}

// P7.1 to P7.3: a nil *Drive, and one that New did not make.
func TestNil(t *testing.T) {
	for _, d := range []*Drive{nil, {}} {
		for kind := -1; kind <= 9; kind++ {
			for _, data := range []string{"", fill("x")} {
				expect(t, d, zone.Command{Kind: kind, N: 1}, data, "", 0, api.ErrArg)
			}
		}
		d.Lose(nil)
		d.Lose([]int{1})
		for _, z := range append([]int{0, 1}, wild...) {
			if got, ok := d.Zone(z); got != (zone.Zone{}) || ok || d.Lasts(z) != 0 {
				t.Errorf("zone %d is %v, %v", z, got, ok)
			}
		}
	}
	var d *Drive
	if e := d.Flush(); e != api.ErrArg {
		t.Errorf("Flush: %d", e)
	}
	d.Die()
	if d.Dead() {
		t.Error("nil is dead")
	}
}
