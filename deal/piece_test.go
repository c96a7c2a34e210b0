package deal_test

import (
	"math/big"
	"math/rand"
	"slices"
	"testing"

	"sacristy/api"
	"sacristy/deal"
	"sacristy/nat"
)

// P14.2: Recover

func checkRecover(t *testing.T, s sample, threshold int, pledges []*big.Int, pieces []piece, x *big.Int) {
	t.Helper()
	got, errno := deal.Recover(s.group, threshold, nats(pledges), ourPieces(pieces), fromBig(x))
	want, enough := s.recovered(threshold, pledges, pieces, x)
	switch {
	case enough && (errno != api.OK || !isShare(got, want)):
		t.Errorf("Q %v: Recover(%d, %v, %v, %v): %s, error %d, not %v", s.q, threshold, pledges, pieces, x, told(got), errno, want)
	case !enough && (errno != api.ErrFew || !isZeroValue(got)):
		t.Errorf("Q %v: Recover(%d, %v, %v, %v): %s, error %d, not ErrFew", s.q, threshold, pledges, pieces, x, told(got), errno)
	}
}

// pieceOf: a peer's piece.
func (s sample) pieceOf(d dealing, peer int) piece { return piece{peer, s.shareOf(d, peer)} }

// somePeers: so many, in any order.
func somePeers(count int, random *rand.Rand) []int {
	peers := random.Perm(api.MaxPeers)[:count]
	for i := range peers {
		peers[i]++
	}
	return peers
}

// Of any right pieces, as many as are needed, one fewer, and more, at all kinds of places.
func TestRecover(t *testing.T) {
	random := rand.New(rand.NewSource(21))
	for _, s := range all() {
		for threshold := 1; threshold <= 4; threshold++ {
			d := s.any(threshold, random)
			pledges := s.pledgesOf(d)
			for count := threshold - 1; count <= threshold+2; count++ {
				var pieces []piece
				for _, peer := range somePeers(count, random) {
					pieces = append(pieces, s.pieceOf(d, peer))
				}
				places := s.places(random)
				if s.q.BitLen() > 30 {
					places = drawn(places, 2, random)
				}
				for _, x := range places {
					checkRecover(t, s, threshold, pledges, pieces, x)
				}
			}
		}
	}
}

// twisted: another right share, of no polynomial: H is G w times.
func (s sample) twisted(a share, w *big.Int, more int64) share {
	less := product(number(more), new(big.Int).ModInverse(w, s.q))
	return share{s.within(plus(a.value, more)), s.within(sum(a.mask, less.Neg(less)))}
}

// Where it isn't all one which pieces count: those of the lowest peers, wherever they stand, and of each peer the first one.
func TestRecoverByThoseThatCount(t *testing.T) {
	w := number(7)
	s := example().based(w)
	d := dealing{bigs(3, 2), bigs(5, 7)}
	pledges := s.pledgesOf(d)
	right := func(peer int) piece { return s.pieceOf(d, peer) }
	other := func(peer int) piece { return piece{peer, s.twisted(s.shareOf(d, peer), w, int64(10+peer))} }
	wrong := func(peer int) piece {
		return piece{peer, s.shareOf(d, peer).moved(number(0), number(1))}
	}
	for _, c := range []struct {
		pieces  []piece
		counted []piece
	}{
		{[]piece{right(9), other(9), right(4)}, []piece{right(4), right(9)}},
		{[]piece{other(9), right(9), right(4)}, []piece{right(4), other(9)}},
		{[]piece{other(30), right(9), right(4)}, []piece{right(4), right(9)}},
		{[]piece{right(9), right(4), other(30)}, []piece{right(4), right(9)}},
		{[]piece{right(9), right(4), other(3)}, []piece{other(3), right(4)}},
		{[]piece{other(3), right(9), right(4)}, []piece{other(3), right(4)}},
		{[]piece{right(64), other(63), other(62)}, []piece{other(62), other(63)}},
		{[]piece{wrong(1), wrong(4), other(4), right(4), wrong(9), right(9), right(20)}, []piece{other(4), right(9)}},
		{[]piece{other(9), wrong(3), other(4), right(4), right(9), wrong(9)}, []piece{other(4), other(9)}},
		{[]piece{right(1), other(1), right(1), right(64)}, []piece{right(1), right(64)}},
	} {
		for _, x := range bigs(0, 1, 4, 9, 50, 101) {
			want, _ := s.recovered(2, pledges, c.counted, x)
			got, errno := deal.Recover(s.group, 2, nats(pledges), ourPieces(c.pieces), fromBig(x))
			if errno != api.OK || !isShare(got, want) {
				t.Errorf("%v at %v: %s, error %d, not %v", c.pieces, x, told(got), errno, want)
			}
			checkRecover(t, s, 2, pledges, c.pieces, x)
		}
	}
}

// kinds: a piece as it should be, and such as don't count, or count and aren't of the dealing.
func (s sample) kinds(d dealing, peer int, w *big.Int, random *rand.Rand) piece {
	a := s.shareOf(d, peer)
	switch random.Intn(10) {
	case 0:
		return piece{peer, a.moved(number(1), number(0))}
	case 1:
		return piece{peer, a.moved(number(0), s.q)}
	case 2:
		return piece{peer, a.moved(s.q, number(0))}
	case 3:
		return piece{peer%64 + 1, a}
	case 4:
		return piece{0, share{d.values[0], d.masks[0]}}
	case 5:
		return s.pieceOf(d, 65)
	case 6, 7:
		return piece{peer, s.twisted(a, w, 1+int64(random.Intn(60)))}
	}
	return piece{peer, a}
}

// Any pieces of few peers, so that there are several of one.
func TestRecoverOfAny(t *testing.T) {
	random := rand.New(rand.NewSource(22))
	for range 1500 {
		w := number(1 + random.Int63n(66))
		little := littles()
		s := little[random.Intn(len(little))].based(w)
		threshold := 1 + random.Intn(5)
		d := s.any(threshold, random)
		var pieces []piece
		for range random.Intn(5 * threshold) {
			pieces = append(pieces, s.kinds(d, 1+random.Intn(2*threshold), w, random))
		}
		places := s.places(random)
		checkRecover(t, s, threshold, s.pledgesOf(d), pieces, places[random.Intn(len(places))])
	}
}

func TestRecoverOfAnyInGreatGroups(t *testing.T) {
	random := rand.New(rand.NewSource(23))
	for i, great := range greats() {
		for range 12 - 8*i {
			w := plus(great.some(random), 1)
			s := great.based(w)
			threshold := 1 + random.Intn(3)
			d := s.any(threshold, random)
			var pieces []piece
			for range 4 * threshold {
				pieces = append(pieces, s.kinds(d, 1+random.Intn(2*threshold), w, random))
			}
			for _, x := range []*big.Int{number(0), s.some(random), sum(s.q, s.some(random))} {
				checkRecover(t, s, threshold, s.pledgesOf(d), pieces, x)
			}
		}
	}
}

// Of one peer any number of right pieces are one; those of wrong peers are none.
func TestRecoverOfFew(t *testing.T) {
	random := rand.New(rand.NewSource(24))
	s := example()
	for threshold := 1; threshold <= api.MaxPeers; threshold++ {
		d := s.any(threshold, random)
		pledges := nats(s.pledgesOf(d))
		var pieces []piece
		for _, peer := range somePeers(threshold-1, random) {
			pieces = append(pieces, s.pieceOf(d, peer), s.pieceOf(d, peer), s.pieceOf(d, peer))
		}
		for _, peer := range []int{0, 65, 101, 102, 165} {
			pieces = append(pieces, s.pieceOf(d, peer))
		}
		for _, list := range [][]piece{nil, {}, pieces} {
			if got, errno := deal.Recover(s.group, threshold, pledges, ourPieces(list), nat.New(5)); errno != api.ErrFew || !isZeroValue(got) {
				t.Errorf("threshold %d: %d pieces: %s, error %d", threshold, len(list), told(got), errno)
			}
		}
	}
}

// Where no peer is, a share that opens the pledges is no piece.
func TestRecoverOfWrongPeers(t *testing.T) {
	s := example()
	flat := dealing{bigs(7), bigs(8)}
	pledges := nats(s.pledgesOf(flat))
	for _, peer := range wrongCounts() {
		pieces := []deal.Piece{{Peer: peer, Share: share{number(7), number(8)}.ours()}}
		if got, errno := deal.Recover(s.group, 1, pledges, pieces, nat.New(0)); errno != api.ErrFew || !isZeroValue(got) {
			t.Errorf("peer %d: %s, error %d", peer, told(got), errno)
		}
	}
}

// All peers' pieces, and many of them wrong, with great thresholds.
func TestRecoverOfMany(t *testing.T) {
	random := rand.New(rand.NewSource(25))
	for _, s := range []sample{example(), littles()[2], greats()[0]} {
		for _, threshold := range []int{20, 43, 64} {
			d := s.any(threshold, random)
			var pieces []piece
			for _, peer := range somePeers(api.MaxPeers, random) {
				pieces = append(pieces, piece{peer, s.shareOf(d, peer).moved(number(1), number(0))}, s.pieceOf(d, peer))
			}
			pledges := s.pledgesOf(d)
			checkRecover(t, s, threshold, pledges, pieces, number(0))
			checkRecover(t, s, threshold, pledges, pieces[:2*threshold], number(65))
			checkRecover(t, s, threshold, pledges, pieces[:2*threshold-1], number(0))
		}
	}
}

// For pledges that are too few, too many, or no members, no piece is right.
func TestRecoverOfWrongPledges(t *testing.T) {
	random := rand.New(rand.NewSource(26))
	for _, s := range all() {
		d := s.any(2, random)
		c := s.pledgesOf(d)
		pieces := ourPieces([]piece{s.pieceOf(d, 1), s.pieceOf(d, 3), s.pieceOf(d, 5)})
		for i, other := range [][]*big.Int{
			nil, c[:1], append(slices.Clone(c), number(1)), {sum(s.p, c[0]), c[1]}, {c[0], sum(s.p, c[1])},
			{new(big.Int).Sub(s.p, c[0]), new(big.Int).Sub(s.p, c[1])}, {number(0), number(0)}, {c[1], s.mul(c[0], s.g)},
		} {
			if got, errno := deal.Recover(s.group, 2, nats(other), pieces, nat.New(0)); errno != api.ErrFew || !isZeroValue(got) {
				t.Errorf("Q %v: pledges %d: %s, error %d", s.q, i, told(got), errno)
			}
		}
		if got, errno := deal.Recover(s.group, 2, nats(c), pieces, nat.New(0)); errno != api.OK || !is(got.S, d.values[0]) {
			t.Errorf("Q %v: %s, error %d", s.q, told(got), errno)
		}
	}
}

// That is told ahead of too few.
func TestRecoverOfWrongArguments(t *testing.T) {
	s := example()
	ones := slices.Repeat(nats(bigs(1)), 200)
	var pieces []deal.Piece
	for peer := 1; peer <= api.MaxPeers; peer++ {
		pieces = append(pieces, deal.Piece{Peer: peer})
	}
	for _, threshold := range wrongCounts() {
		pledges := ones[:min(max(threshold, 0), 200)]
		for _, list := range [][]deal.Piece{nil, pieces} {
			if got, errno := deal.Recover(s.group, threshold, pledges, list, nat.New(0)); errno != api.ErrArg || !isZeroValue(got) {
				t.Errorf("threshold %d: %s, error %d", threshold, told(got), errno)
			}
		}
	}
	for _, threshold := range append(wrongCounts(), 1, 2, 64) {
		for _, list := range [][]deal.Piece{nil, pieces} {
			if got, errno := deal.Recover(nil, threshold, ones[:1], list, nat.New(0)); errno != api.ErrArg || !isZeroValue(got) {
				t.Errorf("no group, threshold %d: %s, error %d", threshold, told(got), errno)
			}
		}
	}
	for _, threshold := range []int{1, 2, 64} {
		if got, errno := deal.Recover(s.group, threshold, ones[:threshold], pieces, nat.New(9)); errno != api.OK || !isZeroValue(got) {
			t.Errorf("threshold %d: %s, error %d", threshold, told(got), errno)
		}
	}
}
