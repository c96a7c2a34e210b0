package deal

import (
	"sacristy/api"
	"sacristy/group"
	"sacristy/nat"
	"sacristy/pledge"
	"sacristy/sign"
)

// Share is a peer's part.
type Share struct{ S, R nat.Nat }

// Right: is a share right for pledges?
func Right(g *group.Group, t int, pledges []nat.Nat, peer int, s Share) bool {
	return areDealt(g, t, pledges) && s.opens(g, pledges, peer)
}

// Bytes: a share's.
func Bytes(g *group.Group, s Share) ([]byte, api.Errno) {
	switch {
	case g == nil:
		return nil, api.ErrArg
	case !s.inField(g):
		return nil, api.ErrRange
	}
	size := numberSize(g)
	// Both are below Q, so there is room.
	value, _ := s.S.Bytes(size)
	mask, _ := s.R.Bytes(size)
	return append(value, mask...), api.OK
}

// Of: the share of bytes.
func Of(g *group.Group, b []byte) (Share, api.Errno) {
	if g == nil {
		return Share{}, api.ErrArg
	}
	size := numberSize(g)
	if len(b) != 2*size {
		return Share{}, api.ErrForm
	}
	// A field's numbers have no more bytes than a number may come with.
	value, _ := nat.FromBytes(b[:size])
	mask, _ := nat.FromBytes(b[size:])
	s := Share{S: value, R: mask}
	if !s.inField(g) {
		return Share{}, api.ErrForm
	}
	return s, api.OK
}

// areDealt: can they be a dealing's pledges, with this threshold? That is asked apart from a share, for of many pieces it is asked once.
func areDealt(g *group.Group, t int, pledges []nat.Nat) bool {
	return inBounds(t) && len(pledges) == t && pledge.Members(g, pledges)
}

// opens: is it a peer's, for what can be a dealing's pledges?
func (s Share) opens(g *group.Group, pledges []nat.Nat, peer int) bool {
	return inBounds(peer) && s.inField(g) && pledge.Opens(g, pledges, placeOf(peer), s.S, s.R)
}

// inField: are both below Q? (Of no group nothing is, for its modulus is 0.)
func (s Share) inField(g *group.Group) bool {
	q := g.Field().Modulus()
	return s.S.Cmp(q) < 0 && s.R.Cmp(q) < 0
}

// numberSize: how many bytes Q needs; a signature has two such numbers.
func numberSize(g *group.Group) int { return sign.Size(g) / 2 }
