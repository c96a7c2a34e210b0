package sign

import (
	"sacristy/group"
	"sacristy/mac"
	"sacristy/nat"
)

const (
	// purpose stands ahead in each challenge, so that it can't be one of another kind of proof.
	purpose = "sign"
	// drawBytes: so many that, taken in a field of fewer bits, hardly any number is likelier than another one.
	drawBytes = 64
)

// signature: a challenge and an answer.
type signature struct{ c, s nat.Nat }

// bytes: a signature's.
func (sig signature) bytes(g *group.Group) []byte {
	size := fieldBytes(g)
	// Both are below Q, so there is room.
	c, _ := sig.c.Bytes(size)
	s, _ := sig.s.Bytes(size)
	return append(c, s...)
}

// signatureOf: the signature of bytes, if they are one's.
func signatureOf(g *group.Group, b []byte) (signature, bool) {
	if len(b) != Size(g) {
		return signature{}, false
	}
	size := fieldBytes(g)
	// A field's numbers have no more bytes than a number may come with.
	c, _ := nat.FromBytes(b[:size])
	s, _ := nat.FromBytes(b[size:])
	return signature{c: c, s: s}, isInField(g, c) && isInField(g, s)
}

// draw: a number of the field that nobody knows who doesn't know the key, and another one for each message: two answers with one draw would tell the key.
func draw(g *group.Group, x nat.Nat, msg []byte) nat.Nat {
	// A key is below Q, and no expansion of so few bytes is too long.
	key, _ := x.Bytes(fieldBytes(g))
	expanded, _ := mac.Expand(key, msg, drawBytes)
	number, _ := nat.FromBytes(expanded)
	k := g.Field().Of(number)
	if k.Zero() {
		return nat.New(1)
	}
	return k
}

// challenge: that of a message, with the members a and y.
func challenge(g *group.Group, a, y nat.Nat, msg []byte) nat.Nat {
	// The group's own Bytes would ask with a power more whether they are members, which is known here.
	aBytes, _ := a.Bytes(g.Size())
	yBytes, _ := y.Bytes(g.Size())
	return g.Challenge([]byte(purpose), aBytes, yBytes, msg)
}

// isKey: may it be a key?
func isKey(g *group.Group, x nat.Nat) bool { return !x.Zero() && isInField(g, x) }

// isInField: is it below Q? (Of no group nothing is, for its modulus is 0.)
func isInField(g *group.Group, a nat.Nat) bool { return a.Cmp(g.Field().Modulus()) < 0 }

// fieldBytes: how many bytes Q needs.
func fieldBytes(g *group.Group) int { return (g.Field().Modulus().Bits() + 7) / 8 }
