package tag

import (
	"iter"
	"slices"

	"sacristy/api"
	"sacristy/mod"
	"sacristy/nat"
)

const (
	partBytes = 16
	// A number of the field, and what is added to it, need a byte more than a part.
	sumBytes = partBytes + 1
)

// ring: that of 2^130 - 5.
func ring() *mod.Ring {
	power := number([]byte{partBytes: 1 << 2})
	modulus, _ := power.Sub(nat.New(5))
	field, _ := mod.New(modulus)
	return field
}

// numbers: one for each part of a message, the last of which may be shorter.
func numbers(b []byte) iter.Seq[nat.Nat] {
	return func(yield func(nat.Nat) bool) {
		for part := range slices.Chunk(b, partBytes) {
			// Without the 1 behind it a part would be the same as one with noughts behind it.
			if !yield(number(slices.Concat(part, []byte{1}))) {
				return
			}
		}
	}
}

// number: that of at most 17 bytes, here with the lowest one first, where chapter 1 has the highest.
func number(b []byte) nat.Nat {
	b = slices.Clone(b)
	slices.Reverse(b)
	n, _ := nat.FromBytes(b)
	return n
}

// lowest: the lowest 128 bits of a number that 17 bytes hold, as bytes.
func lowest(n nat.Nat) []byte {
	b, _ := n.Bytes(sumBytes)
	b = b[sumBytes-api.TagSize:]
	slices.Reverse(b)
	return b
}
