package crc

import (
	"math"
	"strings"
	"testing"
)

// bitwise is the checksum as the document tells it, bit by bit.
func bitwise(s string) uint32 {
	r := uint32(0xffffffff)
	for i := range len(s) {
		r ^= uint32(s[i])
		for range 8 {
			out := r & 1
			r >>= 1
			if out == 1 {
				r ^= 0x82f63b78
			}
		}
	}
	return ^r
}

// text of n bytes that repeat in no short period.
func text(n int) string {
	b := make([]byte, n)
	turn := uint32(n)
	for i := range b {
		turn = turn*1664525 + 1013904223
		b[i] = byte(turn >> 24)
	}
	return string(b)
}

// P2.1: the values that are known.
func TestSum(t *testing.T) {
	for _, c := range []struct {
		s    string
		want uint32
	}{
		{"", 0},
		{"123456789", 0xe3069283},
		{"a", 0xc1d04330},
		{strings.Repeat("\x00", 32), 0x8a9136aa},
		{strings.Repeat("\xff", 32), 0x62a8ab43},
	} {
		if got := Sum(c.s); got != c.want {
			t.Errorf("Sum(%q) = %08x, want %08x", c.s, got, c.want)
		}
	}
}

// P2.1: each byte, and texts of many lengths, as the bits tell it.
func TestSumBitwise(t *testing.T) {
	for b := range 256 {
		for _, s := range []string{string([]byte{byte(b)}), string([]byte{byte(b), 0}), string([]byte{0, byte(b), 255})} {
			if Sum(s) != bitwise(s) {
				t.Errorf("Sum(%q) = %08x, want %08x", s, Sum(s), bitwise(s))
			}
		}
	}
	for _, n := range []int{2, 3, 21, 63, 64, 65, 85, 128, 1000, 70000} {
		if s := text(n); Sum(s) != bitwise(s) {
			t.Errorf("Sum of %d bytes = %08x, want %08x", n, Sum(s), bitwise(s))
		}
	}
}

// P2.1: it is the parts' concatenation that counts, not where one ends.
func TestSumParts(t *testing.T) {
	if Sum() != 0 || Sum("", "", "") != 0 {
		t.Error("Sum without any bytes")
	}
	if Sum("12345", "", "6789") != 0xe3069283 || Sum("", "123456789") != 0xe3069283 || Sum("123456789", "") != 0xe3069283 {
		t.Error("Sum of parts")
	}
	s := text(100)
	for i := range len(s) {
		if Sum(s[:i], s[i:]) != Sum(s) {
			t.Errorf("Sum of parts of %d and %d bytes", i, len(s)-i)
		}
	}
	if Sum(strings.Split(s, "")...) != Sum(s) {
		t.Error("Sum of many parts")
	}
	if Sum("a", "b") == Sum("b", "a") {
		t.Error("the order of the parts does not count")
	}
}

// changed is s with the byte that has behind bytes after it combined with by.
func changed(s string, behind int, by byte) string {
	b := []byte(s)
	b[len(b)-1-behind] ^= by
	return string(b)
}

// P2.2: a change of any byte of a text, by any byte, turns its Sum.
func TestTurn(t *testing.T) {
	s := text(70)
	for behind := range len(s) {
		for by := range 256 {
			if want := Sum(s) ^ Sum(changed(s, behind, byte(by))); Turn(behind, byte(by)) != want {
				t.Fatalf("Turn(%d, %d) = %08x, want %08x", behind, by, Turn(behind, byte(by)), want)
			}
		}
	}
}

// P2.2: it is the same for any text, whatever stands ahead of the byte and behind it.
func TestTurnAnyText(t *testing.T) {
	for _, s := range []string{"abc", "\x00\x00\x00", "\xff\xff\xff", text(3), text(500)} {
		if Sum(s)^Turn(2, 0x80) != Sum(changed(s, 2, 0x80)) || Sum(s)^Turn(0, 1) != Sum(changed(s, 0, 1)) {
			t.Errorf("Turn for a text of %d bytes", len(s))
		}
	}
}

// P2.2: up to 65536 bytes behind, and none beyond.
func TestTurnLimits(t *testing.T) {
	s := text(65537)
	for _, behind := range []int{65535, 65536} {
		want := Sum(s) ^ Sum(changed(s, behind, 0xa5))
		if got := Turn(behind, 0xa5); got != want || got == 0 {
			t.Errorf("Turn(%d, 165) = %08x, want %08x", behind, got, want)
		}
	}
	for _, behind := range []int{-1, -65536, 65537, 1 << 40, math.MaxInt, math.MinInt} {
		if got := Turn(behind, 0xa5); got != 0 {
			t.Errorf("Turn(%d, 165) = %08x, want 0", behind, got)
		}
	}
	for _, behind := range []int{-1, 0, 1, 65536, 65537} {
		if got := Turn(behind, 0); got != 0 {
			t.Errorf("Turn(%d, 0) = %08x, want 0", behind, got)
		}
	}
}
