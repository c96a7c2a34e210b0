package curve

import (
	"slices"

	"sacristy/nat"
)

// operation is what makes one number of two: in a field Add and Mul, in the exponent Mul and Exp.
type operation func(a, b nat.Nat) nat.Nat

// valueAt: a polynomial's value, from the last coefficient down: a power of x is never asked for, which in the exponent mustn't be taken in the field.
func valueAt(c []nat.Nat, x, nothing nat.Nat, plus, times operation) nat.Nat {
	value := nothing
	for _, a := range slices.Backward(c) {
		value = plus(times(value, x), a)
	}
	return value
}

// weighed: all numbers, each its weight times.
func weighed(list, weights []nat.Nat, nothing nat.Nat, plus, times operation) nat.Nat {
	sum := nothing
	for i, a := range list {
		sum = plus(sum, times(a, weights[i]))
	}
	return sum
}
