package nums

import (
	"math"
	"strings"
	"testing"
)

// P1.1: n in width bytes, the highest first.
func TestPut(t *testing.T) {
	for _, c := range []struct {
		n, width int
		want     string
	}{
		{258, 3, "\x00\x01\x02"},
		{0, 1, "\x00"},
		{0, 7, "\x00\x00\x00\x00\x00\x00\x00"},
		{127, 1, "\x7f"},
		{128, 1, "\x80"},
		{255, 1, "\xff"},
		{256, 2, "\x01\x00"},
		{65535, 2, "\xff\xff"},
		{65536, 3, "\x01\x00\x00"},
		{1 << 40, 6, "\x01\x00\x00\x00\x00\x00"},
		{0x01020304050607, 7, "\x01\x02\x03\x04\x05\x06\x07"},
		{1<<56 - 1, 7, "\xff\xff\xff\xff\xff\xff\xff"},
	} {
		if got := Put(c.n, c.width); got != c.want {
			t.Errorf("Put(%d, %d) = %q, want %q", c.n, c.width, got, c.want)
		}
	}
}

// P1.1: an empty string for a width or a number that is not possible.
func TestPutWrong(t *testing.T) {
	for _, c := range []struct{ n, width int }{
		{0, 0}, {0, -1}, {0, 8}, {5, 8}, {1, 9}, {1, 64}, {1, math.MaxInt}, {1, math.MinInt},
		{-1, 1}, {-1, 7}, {math.MinInt, 7}, {-256, 2},
		{math.MaxInt, 7},
	} {
		if got := Put(c.n, c.width); got != "" {
			t.Errorf("Put(%d, %d) = %q, want nothing", c.n, c.width, got)
		}
	}
	for width := 1; width <= 7; width++ {
		if got := Put(1<<(8*width)-1, width); got != strings.Repeat("\xff", width) {
			t.Errorf("the greatest number of %d bytes: %q", width, got)
		}
		if got := Put(1<<(8*width), width); got != "" {
			t.Errorf("one more than the greatest number of %d bytes: %q", width, got)
		}
	}
}

// P1.1: the number of 1 to 7 bytes.
func TestGet(t *testing.T) {
	for _, c := range []struct {
		s    string
		want int
	}{
		{"\x00", 0},
		{"\xff", 255},
		{"\x80\x00", 32768},
		{"\x00\x01\x02", 258},
		{"\x00\x00\x00\x00\x00\x00\x00", 0},
		{"\x01\x02\x03\x04\x05\x06\x07", 0x01020304050607},
		{"\xff\xff\xff\xff\xff\xff\xff", 1<<56 - 1},
	} {
		if got, ok := Get(c.s); got != c.want || !ok {
			t.Errorf("Get(%q) = %d, %v, want %d", c.s, got, ok, c.want)
		}
	}
}

// P1.1: 0 and false for fewer or more bytes.
func TestGetWrong(t *testing.T) {
	for _, s := range []string{"", "12345678", "\x00\x00\x00\x00\x00\x00\x00\x01", strings.Repeat("\xff", 1000)} {
		if got, ok := Get(s); got != 0 || ok {
			t.Errorf("Get of %d bytes = %d, %v", len(s), got, ok)
		}
	}
}

// P1.1: Get returns what was Put, in every width that it fits in.
func TestGetOfPut(t *testing.T) {
	for shift := range 56 {
		for _, n := range []int{1 << shift, 1<<shift - 1, 1<<shift + 1} {
			for width := range 10 {
				s := Put(n, width)
				fits := width >= 1 && width <= 7 && n < 1<<(8*width)
				if !fits {
					if s != "" {
						t.Errorf("Put(%d, %d) = %q", n, width, s)
					}
					continue
				}
				if got, ok := Get(s); len(s) != width || got != n || !ok {
					t.Errorf("Get(Put(%d, %d)) = %d, %v from %q", n, width, got, ok, s)
				}
			}
		}
	}
}
