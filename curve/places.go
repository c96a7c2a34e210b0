package curve

import (
	"slices"

	"sacristy/api"
	"sacristy/mod"
	"sacristy/nat"
)

// fault: why there is no polynomial through these places, with so many values beside them; that a difference has no inverse comes out later, and is named last.
func fault(f *mod.Ring, xs []nat.Nat, values int) api.Errno {
	switch {
	case f == nil:
		return api.ErrArg
	case len(xs) == 0:
		return api.ErrFew
	case len(xs) != values:
		return api.ErrArg
	case hasTwice(each(xs, f.Of)):
		return api.ErrSame
	}
	return api.OK
}

// hasTwice: is one number there twice?
func hasTwice(list []nat.Nat) bool {
	sorted := slices.SortedFunc(slices.Values(list), nat.Nat.Cmp)
	for i := range len(sorted) - 1 {
		if sorted[i].Cmp(sorted[i+1]) == 0 {
			return true
		}
	}
	return false
}

// weightsBeside: the weights of places with so many values beside them.
func weightsBeside(f *mod.Ring, xs []nat.Nat, values int, x nat.Nat) ([]nat.Nat, api.Errno) {
	if errno := fault(f, xs, values); errno != api.OK {
		return nil, errno
	}
	// Once for all, so that none is taken into the ring for each pair again.
	xs, x = each(xs, f.Of), f.Of(x)
	weights := make([]nat.Nat, len(xs))
	for i := range xs {
		weight, errno := weightOf(f, xs, i, x)
		if errno != api.OK {
			return nil, errno
		}
		weights[i] = weight
	}
	return weights, api.OK
}

// weightOf: one place's weight, all divided at once: a product has an inverse just if each of its factors has one.
func weightOf(f *mod.Ring, xs []nat.Nat, i int, x nat.Nat) (nat.Nat, api.Errno) {
	above, below := nat.New(1), nat.New(1)
	for k, other := range xs {
		if k != i {
			above = f.Mul(above, f.Sub(x, other))
			below = f.Mul(below, f.Sub(xs[i], other))
		}
	}
	return quotient(f, above, below)
}

// quotient: a divided by b; beside an error the inverse is 0, and so is this.
func quotient(f *mod.Ring, a, b nat.Nat) (nat.Nat, api.Errno) {
	inverse, errno := f.Inv(b)
	return f.Mul(a, inverse), errno
}

// coefficient: a missing one is 0.
func coefficient(p []nat.Nat, i int) nat.Nat {
	if i < len(p) {
		return p[i]
	}
	return nat.Nat{}
}

// each: what the function makes of each number, in a list of its own.
func each(list []nat.Nat, do func(a nat.Nat) nat.Nat) []nat.Nat {
	all := make([]nat.Nat, len(list))
	for i, a := range list {
		all[i] = do(a)
	}
	return all
}

// copied: an answer shares no memory with what was handed in.
func copied(a nat.Nat) nat.Nat { return a.Add(nat.Nat{}) }
