package group

import (
	"slices"

	"sacristy/api"
	"sacristy/mac"
	"sacristy/mod"
	"sacristy/nat"
)

const (
	// tries: which one it is stands in one byte.
	tries = 256
	// moreBytes: with so many bytes more than P has, a number's rest in the ring of P is as good as evenly drawn.
	moreBytes = 8
)

// areLong: has one of the numbers, or the seed, more bytes than may be?
func (p Params) areLong() bool {
	isLong := func(n nat.Nat) bool { return bytesOf(n) > api.MaxBytes }
	return slices.ContainsFunc([]nat.Nat{p.P, p.Q, p.G}, isLong) || len(p.Seed) > api.MaxBytes
}

// areRight: are they, P and Q being primes?
func (p Params) areRight(ring *mod.Ring) bool {
	if p.Q.Cmp(nat.New(api.MaxPeers)) <= 0 || p.G.Cmp(nat.New(1)) <= 0 || p.G.Cmp(p.P) >= 0 {
		return false
	}
	_, whole := p.often()
	return whole && isOne(ring.Exp(p.G, p.Q))
}

// often: how often Q goes into P - 1, and whether nothing is left.
func (p Params) often() (nat.Nat, bool) {
	less, _ := p.P.Sub(nat.New(1))
	times, rest, _ := less.Div(p.Q)
	return times, rest.Zero()
}

// secondBase: the first one above 1 that is derived of the seed.
func (p Params) secondBase(ring *mod.Ring) (nat.Nat, api.Errno) {
	times, _ := p.often()
	for c := range tries {
		base := ring.Exp(derived(ring, p.Seed, byte(c)), times)
		if base.Cmp(nat.New(1)) > 0 {
			return base, api.OK
		}
	}
	return nat.Nat{}, api.ErrNone
}

// derived: the number, in the ring, of the bytes that the seed gives.
func derived(ring *mod.Ring, seed []byte, c byte) nat.Nat {
	size := bytesOf(ring.Modulus())
	b, _ := mac.Derive(nil, seed, []byte{'h', c}, moreBytes+size)
	// They may be more than a number is made of at once.
	high, _ := nat.FromBytes(b[:moreBytes])
	low, _ := nat.FromBytes(b[moreBytes:])
	above := ring.Exp(nat.New(1<<8), nat.New(uint64(size)))
	return ring.Add(ring.Mul(high, above), low)
}
