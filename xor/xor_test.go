package xor

import (
	"math"
	"slices"
	"strings"
	"testing"
)

// bytewise is the Fold as the document tells it, byte by byte.
func bytewise(parts ...string) string {
	n := 0
	for _, p := range parts {
		n = max(n, len(p))
	}
	b := make([]byte, n)
	for i := range b {
		for _, p := range parts {
			if i < len(p) {
				b[i] ^= p[i]
			}
		}
	}
	return string(b)
}

// randomText has n bytes that repeat in no short period; others for each seed.
func randomText(n, seed int) string {
	b := make([]byte, n)
	turn := uint32(n*31 + seed)
	for i := range b {
		turn = turn*1664525 + 1013904223
		b[i] = byte(turn >> 24)
	}
	return string(b)
}

// lengths are those around the ends of words and of a block.
var lengths = []int{0, 1, 2, 3, 4, 5, 6, 7, 8, 9, 15, 16, 17, 23, 24, 25, 63, 64, 65, 127, 128, 129, 1000}

// P3.1: the exclusive or of both texts.
func TestAdd(t *testing.T) {
	for _, c := range []struct{ a, b, want string }{
		{"", "", ""},
		{"ab", "\x03", "bb"},
		{"\x03", "ab", "bb"},
		{"ab", "", "ab"},
		{"", "ab", "ab"},
		{"abc", "abc", "\x00\x00\x00"},
		{"\xff\x0f", "\x0f\xff", "\xf0\xf0"},
		{"\x00", "\x00\x00", "\x00\x00"},
		{"a\x00", "a", "\x00\x00"},
		{"\xff\xff\xff\xff\xff\xff\xff\xff\xff", "\x01\x02\x04\x08\x10\x20\x40\x80", "\xfe\xfd\xfb\xf7\xef\xdf\xbf\x7f\xff"},
	} {
		if got := Add(c.a, c.b); got != c.want {
			t.Errorf("Add(%q, %q) = %q, want %q", c.a, c.b, got, c.want)
		}
	}
}

// P3.1: each pair of bytes.
func TestAddBytes(t *testing.T) {
	for a := range 256 {
		for b := range 256 {
			got := Add(string([]byte{byte(a)}), string([]byte{byte(b)}))
			if got != string([]byte{byte(a ^ b)}) {
				t.Fatalf("Add of the bytes %d and %d = %q", a, b, got)
			}
		}
	}
}

// P3.1: a text that has ended counts as 00, whichever of both it is.
func TestAddLengths(t *testing.T) {
	for _, n := range lengths {
		for _, m := range lengths {
			a, b := randomText(n, 1), randomText(m, 2)
			got := Add(a, b)
			if len(got) != max(n, m) || got != bytewise(a, b) {
				t.Errorf("Add of %d and %d bytes = %q", n, m, got)
			}
		}
	}
}

// P3.1: Fold of any number of parts.
func TestFold(t *testing.T) {
	for _, c := range []struct {
		parts []string
		want  string
	}{
		{nil, ""},
		{[]string{}, ""},
		{[]string{""}, ""},
		{[]string{"", "", ""}, ""},
		{[]string{"abc"}, "abc"},
		{[]string{"abc", ""}, "abc"},
		{[]string{"", "abc"}, "abc"},
		{[]string{"\x01", "\x02\x02", "\x04\x04\x04"}, "\x07\x06\x04"},
		{[]string{"\x04\x04\x04", "\x02\x02", "\x01"}, "\x07\x06\x04"},
		{[]string{"a", "a", "a"}, "a"},
		{[]string{"abc", "abc"}, "\x00\x00\x00"},
		{[]string{"\x00\x00", "\x00"}, "\x00\x00"},
	} {
		if got := Fold(c.parts...); got != c.want {
			t.Errorf("Fold(%q) = %q, want %q", c.parts, got, c.want)
		}
	}
}

// P3.1: Fold is Add, one part after the other.
func TestFoldIsAdd(t *testing.T) {
	var parts []string
	sum := ""
	for i, n := range append(slices.Clone(lengths), 64, 3, 0, 12) {
		parts = append(parts, randomText(n, i))
		sum = Add(sum, parts[i])
		if got := Fold(parts...); got != sum || got != bytewise(parts...) {
			t.Errorf("Fold of %d parts = %q, want %q", len(parts), got, sum)
		}
	}
	slices.Reverse(parts)
	if Fold(parts...) != sum {
		t.Error("Fold hangs on the order of the parts")
	}
}

// P3.1: one long part and many short ones take no more than their bytes do.
func TestFoldManyParts(t *testing.T) {
	parts := make([]string, 1<<18)
	parts[0] = randomText(1<<20, 1)
	parts[1<<17] = "\x01"
	if got := Fold(parts...); got != Add(parts[0], "\x01") {
		t.Error("Fold of one long part and many empty ones")
	}
}

// P3.1, P3.2: the list of parts, and the room behind it, stay as they are.
func TestArgumentsStay(t *testing.T) {
	room := []string{"ab", "c", "spare", "room"}
	before := slices.Clone(room)
	Fold(room[:2]...)
	Missing("xyz", room[:2]...)
	if !slices.Equal(room, before) {
		t.Errorf("the list became %q", room)
	}
}

// P3.2: Fold of parity and the others.
func TestMissing(t *testing.T) {
	for _, c := range []struct {
		parity string
		others []string
		want   string
	}{
		{"", nil, ""},
		{"abc", nil, "abc"},
		{"", []string{"abc"}, "abc"},
		{"bb", []string{"\x03"}, "ab"},
		{"\x03", []string{"bb"}, "ab"},
		{"\x07", []string{"\x01", "\x02"}, "\x04"},
		{"a", []string{"", "bcd", "e"}, "fcd"},
		{"\x00\x00", []string{""}, "\x00\x00"},
	} {
		if got := Missing(c.parity, c.others...); got != c.want {
			t.Errorf("Missing(%q, %q) = %q, want %q", c.parity, c.others, got, c.want)
		}
	}
	for _, n := range lengths {
		for _, m := range lengths {
			parity, others := randomText(n, 1), []string{randomText(m, 2), randomText(9, 3)}
			if got := Missing(parity, others...); got != bytewise(parity, others[0], others[1]) {
				t.Errorf("Missing of %d, %d and 9 bytes = %q", n, m, got)
			}
		}
	}
}

// P3.2: of parts of equal length, the one that is not passed.
func TestMissingPart(t *testing.T) {
	for _, n := range lengths {
		for count := 1; count <= 16; count++ {
			var parts []string
			for i := range count {
				parts = append(parts, randomText(n, i))
			}
			parity := Fold(parts...)
			for i := range parts {
				if got := Missing(parity, slices.Delete(slices.Clone(parts), i, i+1)...); got != parts[i] {
					t.Fatalf("part %d of %d is %q, want %q", i, count, got, parts[i])
				}
			}
		}
	}
}

// P3.2: n bytes 00, up to 65536 of them; an empty text for other numbers.
func TestZero(t *testing.T) {
	for _, n := range []int{0, 1, 2, 7, 8, 9, 63, 64, 65, 65535, 65536} {
		if got := Zero(n); got != strings.Repeat("\x00", n) {
			t.Errorf("Zero(%d) has %d bytes", n, len(got))
		}
	}
	for _, n := range []int{-1, -64, -65536, 65537, 1 << 17, 1 << 40, math.MaxInt, math.MinInt} {
		if got := Zero(n); got != "" {
			t.Errorf("Zero(%d) has %d bytes", n, len(got))
		}
	}
}

// P3.2: a text without bytes, or with bytes 00 alone.
func TestEmpty(t *testing.T) {
	for _, n := range append(slices.Clone(lengths), 65536, 100000) {
		if !Empty(strings.Repeat("\x00", n)) {
			t.Errorf("%d bytes 00 are not Empty", n)
		}
	}
	for _, n := range lengths {
		for at := range n {
			for _, by := range []byte{1, 0x30, 0x80, 0xff} {
				b := make([]byte, n)
				b[at] = by
				if Empty(string(b)) {
					t.Fatalf("%d bytes are Empty with %d at %d", n, by, at)
				}
			}
		}
	}
	for _, s := range []string{"0", " ", "\x01", "\x00\x00a", "a\x00\x00"} {
		if Empty(s) {
			t.Errorf("%q is Empty", s)
		}
	}
}
