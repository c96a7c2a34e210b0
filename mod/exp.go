package mod

import "sacristy/nat"

const (
	digitBits = 4
	digits    = 1 << digitBits
)

// Exp: the power's: four bits of the exponent at a time.
func (r *Ring) Exp(a, e nat.Nat) nat.Nat {
	if r == nil {
		return nat.Nat{}
	}
	powers := r.powers(r.Of(a), greatestDigit(e))
	power := r.Of(nat.New(1))
	for i := digitsOf(e) - 1; i >= 0; i-- {
		for range digitBits {
			power = r.Mul(power, power)
		}
		if d := digit(e, i); d > 0 {
			power = r.Mul(power, powers[d])
		}
	}
	return power
}

// powers: those of a, up to the last one; the others aren't needed, and a small exponent mustn't pay for them.
func (r *Ring) powers(a nat.Nat, last int) [digits]nat.Nat {
	var powers [digits]nat.Nat
	powers[0] = r.Of(nat.New(1))
	for i := range last {
		powers[i+1] = r.Mul(powers[i], a)
	}
	return powers
}

// digitsOf: how many digits of four bits a number needs.
func digitsOf(e nat.Nat) int { return (e.Bits() + digitBits - 1) / digitBits }

// digit: four bits of a number.
func digit(e nat.Nat, i int) int {
	d := 0
	for k := range digitBits {
		d |= e.Bit(i*digitBits+k) << k
	}
	return d
}

// greatestDigit: the greatest of a number's digits (of 0: 0).
func greatestDigit(e nat.Nat) int {
	greatest := 0
	for i := range digitsOf(e) {
		greatest = max(greatest, digit(e, i))
	}
	return greatest
}
