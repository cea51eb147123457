// Package nums is layer 1: numbers as bytes, and sets of small numbers (see shared/doc/01-nums.md).
package nums

// maxWidth keeps every encoded number below 2^56, so that Get always has an int for it.
const maxWidth = 7

// Put returns n in width bytes, the highest byte first; an empty string if it can't be written so.
func Put(n, width int) string {
	if width < 1 || width > maxWidth || n < 0 || n>>(8*width) != 0 {
		return ""
	}
	b := make([]byte, width)
	for i := range width {
		b[width-1-i] = byte(n >> (8 * i))
	}
	return string(b)
}

// Get returns the number that s encodes; false if s has no byte or too many.
func Get(s string) (int, bool) {
	if len(s) < 1 || len(s) > maxWidth {
		return 0, false
	}
	n := 0
	for i := range len(s) {
		n = n<<8 | int(s[i])
	}
	return n, true
}
