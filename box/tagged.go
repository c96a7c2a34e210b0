package box

import "slices"

const (
	partBytes   = 16
	lengthBytes = 8
)

// tagged: what the tag is of. The lengths end it, so that no byte of side passes for a sealed one, nor a nought behind for one of them.
func tagged(side, sealed []byte) []byte {
	return slices.Concat(side, noughts(len(side)), sealed, noughts(len(sealed)), length(len(side)), length(len(sealed)))
}

// noughts: those behind n bytes, up to a whole part; none, where the last one is whole.
func noughts(n int) []byte {
	return make([]byte, (partBytes-n%partBytes)%partBytes)
}

// length: a number as eight bytes, the lowest first.
func length(n int) []byte {
	b := make([]byte, lengthBytes)
	for i := range b {
		b[i] = byte(n >> (8 * i))
	}
	return b
}
