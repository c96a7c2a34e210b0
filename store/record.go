package store

import (
	"slices"

	"sacristy/sha"
)

// What an area's bytes have ahead of the state, and where.
const (
	lengthAt = 8
	sumAt    = 12
	head     = 44
	sumSize  = head - sumAt
)

// sum: of a state's bytes.
type sum [sumSize]byte

// record: a state with its number.
type record struct {
	number uint64
	state  []byte
}

// bytes: those of its area.
func (r record) bytes() []byte {
	return slices.Concat(
		highestFirst(r.number, lengthAt),
		highestFirst(uint64(len(r.state)), sumAt-lengthAt),
		sha.Sum(r.state),
		r.state,
	)
}

// recordIn: the record at the beginning of an area; false: none stands there whole.
func recordIn(area []byte) (record, bool) {
	number, length, behind := numberOf(area[:lengthAt]), numberOf(area[lengthAt:sumAt]), area[head:]
	if length > uint64(len(behind)) {
		return record{}, false
	}
	state := behind[:length]
	if sum(sha.Sum(state)) != sum(area[sumAt:head]) {
		return record{}, false
	}
	return record{number: number, state: slices.Clone(state)}, true
}

// highestFirst: a number in so many bytes.
func highestFirst(n uint64, count int) []byte {
	b := make([]byte, count)
	for i := range b {
		b[count-1-i] = byte(n >> (8 * i))
	}
	return b
}

// numberOf: the number of these bytes.
func numberOf(b []byte) uint64 {
	n := uint64(0)
	for _, a := range b {
		n = n<<8 | uint64(a)
	}
	return n
}
