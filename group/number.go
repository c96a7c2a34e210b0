package group

import "sacristy/nat"

// lengthBytes: so many bytes tell how long a part of a challenge is.
const lengthBytes = 8

// orNone: no group answers as one without rings does, whose calls answer 0.
func (g *Group) orNone() *Group {
	if g == nil {
		return &Group{}
	}
	return g
}

// each: the numbers in the ring, so that none is taken into it at each bit again.
func (g *Group) each(list []nat.Nat) []nat.Nat {
	within := make([]nat.Nat, len(list))
	for i, a := range list {
		within[i] = g.ring.Of(a)
	}
	return within
}

// mostBits: how many bits the greatest of the numbers needs.
func mostBits(list []nat.Nat) int {
	most := 0
	for _, a := range list {
		most = max(most, a.Bits())
	}
	return most
}

// lengthOf: how many bytes there are, the lowest byte first.
func lengthOf(part []byte) []byte {
	b := make([]byte, lengthBytes)
	for i := range b {
		b[i] = byte(uint64(len(part)) >> (8 * i))
	}
	return b
}

func isOne(a nat.Nat) bool { return a.Cmp(nat.New(1)) == 0 }

// bytesOf: how many bytes a number needs.
func bytesOf(a nat.Nat) int { return (a.Bits() + 7) / 8 }

// copied: what a group answers shares no memory with it.
func copied(a nat.Nat) nat.Nat { return a.Add(nat.Nat{}) }
