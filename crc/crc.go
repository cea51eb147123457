// Package crc is layer 2: 32-bit checksums (see shared/doc/02-crc.md).
package crc

const (
	start     = 0xffffffff // the register ahead of the first byte
	maxBehind = 65536      // the most bytes behind the one that Turn is asked about
)

// steps has, for each value of the register's lowest four bits, what four shifts of them leave:
// two of its entries a byte do what the document says bit by bit.
var steps = [16]uint32{
	0x00000000, 0x105ec76f, 0x20bd8ede, 0x30e349b1,
	0x417b1dbc, 0x5125dad3, 0x61c69362, 0x7198540d,
	0x82f63b78, 0x92a8fc17, 0xa24bb5a6, 0xb21572c9,
	0xc38d26c4, 0xd3d3e1ab, 0xe330a81a, 0xf36e6f75,
}

// Sum returns the checksum of the parts, one behind the other.
func Sum(parts ...string) uint32 {
	r := uint32(start)
	for _, p := range parts {
		for i := range len(p) {
			r = next(r, p[i])
		}
	}
	return ^r
}

// Turn returns what a text's Sum is to be combined with if a byte of it, with so many behind it, is combined with by.
// The register is linear in the bytes: the difference alone, from an empty register on, tells it,
// and the start and the final inversion cancel each other out.
func Turn(behind int, by byte) uint32 {
	if behind < 0 || behind > maxBehind {
		return 0
	}
	r := next(0, by)
	for range behind {
		r = next(r, 0)
	}
	return r
}

// next returns the register after one more byte.
func next(r uint32, b byte) uint32 {
	r ^= uint32(b)
	r = r>>4 ^ steps[r&15]
	return r>>4 ^ steps[r&15]
}
