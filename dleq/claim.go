package dleq

import (
	"slices"

	"sacristy/group"
	"sacristy/nat"
	"sacristy/schnorr"
)

// purpose stands ahead in each challenge, so that it can't be one of another kind of proof, and in what a draw is made of, so that it is no signature's unless bytes that begin so are signed.
const purpose = "dleq"

// challenge: a claim's, with u and v, all six being members.
func (c Claim) challenge(g *group.Group, u, v nat.Nat, side []byte) nat.Nat {
	parts := [][]byte{[]byte(purpose)}
	for _, a := range []nat.Nat{c.A, c.B, c.Y, c.Z, u, v} {
		parts = append(parts, schnorr.Member(g, a))
	}
	return g.Challenge(append(parts, side)...)
}

// drawnOf: what stands in a message's place where the draw is made.
func drawnOf(g *group.Group, a, b nat.Nat, side []byte) []byte {
	return slices.Concat([]byte(purpose), schnorr.Member(g, a), schnorr.Member(g, b), side)
}

// areMembers: are all of them? (Of no group none is.)
func areMembers(g *group.Group, list ...nat.Nat) bool {
	return !slices.ContainsFunc(list, func(a nat.Nat) bool { return !g.Member(a) })
}

// copied: a claim shares no memory with the bases that it was asked for.
func copied(a nat.Nat) nat.Nat { return a.Add(nat.Nat{}) }
