// Package nat: numbers without a bound (chapter 1).
package nat

import (
	"cmp"
	"iter"
	"math"
	"math/bits"
	"slices"

	"sacristy/api"
)

const (
	wordBits  = 32
	wordBytes = wordBits / 8
)

// Nat is a number: words of 32 bits, the lowest first, the last one not 0. It is never changed.
type Nat struct {
	words []uint32
}

// New: a number.
func New(n uint64) Nat { return trimmed([]uint32{uint32(n), uint32(n >> wordBits)}) }

// FromBytes: the number of bytes.
func FromBytes(b []byte) (Nat, api.Errno) {
	if len(b) > api.MaxBytes {
		return Nat{}, api.ErrLong
	}
	words := make([]uint32, (len(b)+wordBytes-1)/wordBytes)
	for i := range b {
		words[i/wordBytes] |= uint32(b[len(b)-1-i]) << (i % wordBytes * 8)
	}
	return trimmed(words), api.OK
}

// Bytes: so many bytes.
func (a Nat) Bytes(size int) ([]byte, api.Errno) {
	needed := a.size()
	switch {
	case size < 0:
		return nil, api.ErrArg
	case needed > size:
		return nil, api.ErrRange
	case size > math.MaxInt32:
		// Nothing is promised of so many, but to ask for them mustn't end the program.
		return nil, api.ErrLong
	}
	b := make([]byte, size)
	for i := range needed {
		b[size-1-i] = byte(a.words[i/wordBytes] >> (i % wordBytes * 8))
	}
	return b, api.OK
}

// Least: the fewest bytes.
func (a Nat) Least() []byte {
	b, _ := a.Bytes(a.size())
	return b
}

// Uint: it, if it is small.
func (a Nat) Uint() (uint64, bool) {
	if a.Bits() > 64 {
		return 0, false
	}
	return uint64(a.word(1))<<wordBits | uint64(a.word(0)), true
}

// Cmp: which is greater?
func (a Nat) Cmp(b Nat) int {
	// No number has a nought on top, so the longer one is the greater one.
	if len(a.words) != len(b.words) {
		return cmp.Compare(len(a.words), len(b.words))
	}
	for i, word := range a.fromHighest() {
		if word != b.words[i] {
			return cmp.Compare(word, b.words[i])
		}
	}
	return 0
}

// Zero: is it 0?
func (a Nat) Zero() bool { return len(a.words) == 0 }

// Bits: how many bits it needs.
func (a Nat) Bits() int {
	if a.Zero() {
		return 0
	}
	top := len(a.words) - 1
	return top*wordBits + bits.Len32(a.words[top])
}

// Bit: one of its bits.
func (a Nat) Bit(i int) int {
	if i < 0 {
		return 0
	}
	return int(a.word(i/wordBits) >> (i % wordBits) & 1)
}

// Add: the sum.
func (a Nat) Add(b Nat) Nat {
	if len(a.words) < len(b.words) {
		a, b = b, a
	}
	sum := make([]uint32, len(a.words)+1)
	carry := uint32(0)
	for i, word := range a.words {
		sum[i], carry = bits.Add32(word, b.word(i), carry)
	}
	sum[len(a.words)] = carry
	return trimmed(sum)
}

// Sub: the difference.
func (a Nat) Sub(b Nat) (Nat, bool) {
	if a.Cmp(b) < 0 {
		return Nat{}, false
	}
	difference := make([]uint32, len(a.words))
	borrow := uint32(0)
	for i, word := range a.words {
		difference[i], borrow = bits.Sub32(word, b.word(i), borrow)
	}
	return trimmed(difference), true
}

// Mul: the product.
func (a Nat) Mul(b Nat) Nat {
	product := make([]uint32, len(a.words)+len(b.words))
	for i, word := range a.words {
		product[i+len(b.words)] = addProduct(product[i:], b.words, word)
	}
	return trimmed(product)
}

// Gcd: the greatest number that divides both.
func (a Nat) Gcd(b Nat) Nat {
	for !b.Zero() {
		_, rest, _ := a.Div(b)
		a, b = b, rest
	}
	return a.clone()
}

// trimmed keeps the words: whoever calls it made them for this number alone.
func trimmed(words []uint32) Nat {
	n := len(words)
	for n > 0 && words[n-1] == 0 {
		n--
	}
	if n == 0 {
		// 0 has one form, the zero value, whichever way it came about.
		return Nat{}
	}
	return Nat{words: words[:n]}
}

// clone: an answer shares no memory, not even with a number that it equals.
func (a Nat) clone() Nat { return Nat{words: slices.Clone(a.words)} }

// size: how many bytes it needs.
func (a Nat) size() int { return (a.Bits() + 7) / 8 }

// word: above the highest one there are noughts, so that a shorter number goes along with a longer one.
func (a Nat) word(i int) uint32 {
	if i < len(a.words) {
		return a.words[i]
	}
	return 0
}

// fromHighest: the words and where they stand, those first that decide which number is greater.
func (a Nat) fromHighest() iter.Seq2[int, uint32] {
	return func(yield func(int, uint32) bool) {
		for i := len(a.words) - 1; i >= 0; i-- {
			if !yield(i, a.words[i]) {
				return
			}
		}
	}
}

// addProduct adds the words, so often, to those of into, and answers what is carried beyond them.
func addProduct(into, words []uint32, often uint32) uint32 {
	carry := uint64(0)
	for i, word := range words {
		// The greatest product and two greatest words are just what 64 bits hold.
		carry += uint64(word)*uint64(often) + uint64(into[i])
		into[i] = uint32(carry)
		carry >>= wordBits
	}
	return uint32(carry)
}
