// Package schnorr: what signatures (chapter 11) and proofs (chapter 12) have in common: who knows an exponent answers a challenge.
package schnorr

import (
	"sacristy/group"
	"sacristy/mac"
	"sacristy/nat"
)

// drawBytes: so many that, taken in a field of fewer bits, hardly any number is likelier than another one.
const drawBytes = 64

// Proof is a challenge and an answer, numbers of the field.
type Proof struct{ C, S nat.Nat }

// Draw: a number of the field that nobody knows who doesn't know the exponent x, and another one for each message: two answers with one draw would tell the exponent.
func Draw(g *group.Group, x nat.Nat, msg []byte) nat.Nat {
	// An exponent is below Q, and no expansion of so few bytes is too long.
	key, _ := x.Bytes(fieldBytes(g))
	expanded, _ := mac.Expand(key, msg, drawBytes)
	number, _ := nat.FromBytes(expanded)
	k := g.Field().Of(number)
	if k.Zero() {
		return nat.New(1)
	}
	return k
}

// Answered: the challenge c, answered with the draw k and the exponent x.
func Answered(g *group.Group, k, c, x nat.Nat) Proof {
	field := g.Field()
	return Proof{C: c, S: field.Add(k, field.Mul(c, x))}
}

// Of: the proof of bytes, if they are one's.
func Of(g *group.Group, b []byte) (Proof, bool) {
	if len(b) != Size(g) {
		return Proof{}, false
	}
	size := fieldBytes(g)
	// A field's numbers have no more bytes than a number may come with.
	c, _ := nat.FromBytes(b[:size])
	s, _ := nat.FromBytes(b[size:])
	return Proof{C: c, S: s}, InField(g, c) && InField(g, s)
}

// Bytes: a proof's.
func (p Proof) Bytes(g *group.Group) []byte {
	size := fieldBytes(g)
	// Both are below Q, so there is room.
	c, _ := p.C.Bytes(size)
	s, _ := p.S.Bytes(size)
	return append(c, s...)
}

// Drawn: the base as often as the draw said, if the answer is right and the power is the base as often as the exponent says.
func (p Proof) Drawn(g *group.Group, base, power nat.Nat) nat.Nat {
	// There are as many bases as exponents.
	a, _ := g.Multi([]nat.Nat{base, g.Inv(power)}, []nat.Nat{p.S, p.C})
	return a
}

// Member: a member's bytes. The group's own Bytes would ask with a power more whether it is one, which is known where a challenge is made.
func Member(g *group.Group, a nat.Nat) []byte {
	b, _ := a.Bytes(g.Size())
	return b
}

// Size: how many bytes a proof has.
func Size(g *group.Group) int { return 2 * fieldBytes(g) }

// InField: is it below Q? (Of no group nothing is, for its modulus is 0.)
func InField(g *group.Group, a nat.Nat) bool { return a.Cmp(g.Field().Modulus()) < 0 }

// fieldBytes: how many bytes Q needs.
func fieldBytes(g *group.Group) int { return (g.Field().Modulus().Bits() + 7) / 8 }
