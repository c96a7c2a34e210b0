package deal

import (
	"slices"

	"sacristy/api"
	"sacristy/curve"
	"sacristy/group"
	"sacristy/nat"
)

// Piece is a peer's share that somebody tells.
type Piece struct {
	Peer  int
	Share Share
}

// Recover: the value at a place, by pieces.
func Recover(g *group.Group, t int, pledges []nat.Nat, l []Piece, x nat.Nat) (Share, api.Errno) {
	switch {
	case g == nil || !inBounds(t):
		return Share{}, api.ErrArg
	case !areDealt(g, t, pledges):
		// No piece is right for them.
		return Share{}, api.ErrFew
	}
	counting := thoseThatCount(g, t, pledges, l)
	if len(counting) < t {
		return Share{}, api.ErrFew
	}
	return joined(g, counting, x), api.OK
}

// thoseThatCount: of each peer, rising, its first piece that is right, till there are as many as the threshold.
func thoseThatCount(g *group.Group, t int, pledges []nat.Nat, l []Piece) []Piece {
	var counting []Piece
	for peer := 1; peer <= api.MaxPeers && len(counting) < t; peer++ {
		i := slices.IndexFunc(l, func(p Piece) bool { return p.Peer == peer && p.Share.opens(g, pledges, peer) })
		if i >= 0 {
			counting = append(counting, l[i])
		}
	}
	return counting
}

// joined: the value at a place of both polynomials through the pieces.
func joined(g *group.Group, pieces []Piece, x nat.Nat) Share {
	var xs, values, masks []nat.Nat
	for _, p := range pieces {
		xs = append(xs, placeOf(p.Peer))
		values = append(values, p.Share.S)
		masks = append(masks, p.Share.R)
	}
	// There is a piece at least, and the peers are unlike and below Q, a prime, so nothing can be wrong.
	f := g.Field()
	value, _ := curve.Join(f, xs, values, x)
	mask, _ := curve.Join(f, xs, masks, x)
	return Share{S: value, R: mask}
}
