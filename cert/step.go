package cert

import (
	"slices"

	"sacristy/api"
	"sacristy/mod"
	"sacristy/nat"
)

// isLong: has a step a number of more bytes than a chain's may have?
func isLong(s Step) bool {
	return isLongNumber(s.N) || isLongNumber(s.Base) || slices.ContainsFunc(s.Primes, isLongNumber)
}

func isLongNumber(n nat.Nat) bool { return n.Bits() > 8*api.MaxBytes }

// areKnown: are they as many as there may be, unlike, and each one small or among those behind which the step stands?
func areKnown(primes, behind []nat.Nat) bool {
	if len(primes) == 0 || len(primes) > api.MaxPrimes {
		return false
	}
	for i, p := range primes {
		if !isKnown(p, behind) || contains(primes[:i], p) {
			return false
		}
	}
	return true
}

// isKnown: Holds may be handed anything behind, but 0 and 1 have no powers to look for.
func isKnown(p nat.Nat, behind []nat.Nat) bool {
	return Small(p) || p.Cmp(nat.New(2)) >= 0 && contains(behind, p)
}

func contains(numbers []nat.Nat, n nat.Nat) bool {
	return slices.ContainsFunc(numbers, func(other nat.Nat) bool { return other.Cmp(n) == 0 })
}

// areEnough: does each divide N - 1, and is the square of what they make up of it above N?
func areEnough(primes []nat.Nat, less nat.Nat) bool {
	one := nat.New(1)
	product := one
	for _, p := range primes {
		power := powerIn(less, p)
		if power.Cmp(one) == 0 {
			return false
		}
		product = product.Mul(power)
	}
	return product.Mul(product).Cmp(less.Add(one)) > 0
}

// powerIn: the greatest power of p, which is above 1, that divides a, which is above 0 (so there is an end).
func powerIn(a, p nat.Nat) nat.Nat {
	power := nat.New(1)
	for {
		quotient, rest, _ := a.Div(p)
		if !rest.Zero() {
			return power
		}
		a, power = quotient, power.Mul(p)
	}
}

// prove: Pocklington's conditions, in the ring of N.
func prove(primes []nat.Nat, base, less nat.Nat, ring *mod.Ring) bool {
	one := nat.New(1)
	if ring.Exp(base, less).Cmp(one) != 0 {
		return false
	}
	for _, p := range primes {
		times, _, _ := less.Div(p)
		beyond := ring.Sub(ring.Exp(base, times), one)
		// Of a power of 1 nothing is left, and with 0 N has all of itself in common.
		if beyond.Gcd(ring.Modulus()).Cmp(one) != 0 {
			return false
		}
	}
	return true
}
