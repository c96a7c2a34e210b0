package nat

import (
	"math"
	"math/bits"

	"sacristy/api"
)

// Div: how often b goes into it, and what is left (Knuth's way).
func (a Nat) Div(b Nat) (Nat, Nat, api.Errno) {
	switch {
	case b.Zero():
		return Nat{}, Nat{}, api.ErrZero
	case a.Cmp(b) < 0:
		return Nat{}, a.clone(), api.OK
	case len(b.words) == 1:
		quotient, rest := divWord(a.words, b.words[0])
		return trimmed(quotient), New(uint64(rest)), api.OK
	}
	quotient, rest := divWords(a.words, b.words)
	return trimmed(quotient), trimmed(rest), api.OK
}

// divWord: a guess needs two words of the divisor, so a divisor of one has a way of its own.
func divWord(words []uint32, divisor uint32) ([]uint32, uint32) {
	quotient := make([]uint32, len(words))
	rest := uint32(0)
	for i := len(words) - 1; i >= 0; i-- {
		quotient[i], rest = bits.Div32(rest, words[i], divisor)
	}
	return quotient, rest
}

// divWords divides by two words at least; there are no fewer of those that are divided.
func divWords(words, divisor []uint32) ([]uint32, []uint32) {
	// With its highest bit set a divisor's two highest words make a guess that is hardly ever too great.
	shift := bits.LeadingZeros32(divisor[len(divisor)-1])
	rest := shiftedUp(words, shift)
	divisor = shiftedUp(divisor, shift)[:len(divisor)]
	quotient := make([]uint32, len(rest)-len(divisor))
	for i := len(quotient) - 1; i >= 0; i-- {
		quotient[i] = takeOut(rest[i:i+len(divisor)+1], divisor)
	}
	return quotient, shiftedDown(rest, shift)
}

// takeOut takes the divisor out of a rest of one word more, and answers how often: that is less than a word holds.
func takeOut(rest, divisor []uint32) uint32 {
	top := len(divisor)
	often := guess(rest, divisor)
	borrow := subProduct(rest, divisor, often)
	missing := borrow > rest[top]
	rest[top] -= borrow
	if missing {
		often--
		rest[top] += addBack(rest, divisor)
	}
	return often
}

// guess: how often the divisor goes into the rest, or once more; never less.
func guess(rest, divisor []uint32) uint32 {
	top := len(divisor)
	high := uint64(rest[top])<<wordBits | uint64(rest[top-1])
	first, second := uint64(divisor[top-1]), uint64(divisor[top-2])
	often, left := high/first, high%first
	for often > math.MaxUint32 || often*second > left<<wordBits|uint64(rest[top-2]) {
		often--
		left += first
		if left > math.MaxUint32 {
			// What the guess is held against would need more than 64 bits now, so it is the greater one.
			break
		}
	}
	return uint32(often)
}

// subProduct takes the words, so often, from those of from, and answers what is borrowed beyond them.
func subProduct(from, words []uint32, often uint32) uint32 {
	owed := uint64(0)
	for i, word := range words {
		owed += uint64(word) * uint64(often)
		low := uint32(owed)
		owed >>= wordBits
		if low > from[i] {
			owed++
		}
		from[i] -= low
	}
	return uint32(owed)
}

// addBack mends a guess that was one too great, and answers the carry that makes up for what was borrowed.
func addBack(into, words []uint32) uint32 {
	carry := uint32(0)
	for i, word := range words {
		into[i], carry = bits.Add32(into[i], word, carry)
	}
	return carry
}

// shiftedUp: by less than a word, so one word more holds it.
func shiftedUp(words []uint32, shift int) []uint32 {
	shifted := make([]uint32, len(words)+1)
	for i, word := range words {
		shifted[i] |= word << shift
		shifted[i+1] = word >> (wordBits - shift)
	}
	return shifted
}

// shiftedDown undoes shiftedUp.
func shiftedDown(words []uint32, shift int) []uint32 {
	shifted := make([]uint32, len(words))
	for i, word := range words {
		shifted[i] = word >> shift
		if i > 0 {
			shifted[i-1] |= word << (wordBits - shift)
		}
	}
	return shifted
}
