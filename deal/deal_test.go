package deal_test

import (
	"bytes"
	"encoding/hex"
	"math"
	"math/big"
	"math/rand"
	"testing"

	"sacristy/api"
	"sacristy/deal"
	"sacristy/nat"
)

// What another writing of the chapter, in another language, told: of the peers 1, 4, 33 and 64 the shares' bytes, and at 0, at 9 and at Q + 50 what the first of them tell.
func TestExamples(t *testing.T) {
	other := made(number(719), number(359), number(4), nil)
	for _, c := range []struct {
		of                     sample
		threshold              int
		secret, mask           int64
		draws                  []*big.Int
		values, masks, pledges []*big.Int
		shares                 [4]string
		recovered              [3][2]int64
	}{
		{example(), 2, 3, 5, bigs(2, 7), bigs(3, 2), bigs(5, 7), bigs(347, 49), [4]string{"050c", "0b21", "4522", "1e31"}, [3][2]int64{{3, 5}, {21, 68}, {2, 52}}},
		{example(), 1, 102, 359, nil, bigs(1), bigs(56), bigs(93), [4]string{"0138", "0138", "0138", "0138"}, [3][2]int64{{1, 56}, {1, 56}, {1, 56}}},
		{example(), 3, 100, 0, bigs(1, 2, 3, 4, 5), bigs(100, 1, 2), bigs(0, 3, 4), bigs(313, 342, 247), [4]string{"0207", "234c", "590b", "4a0c"}, [3][2]int64{{100, 0}, {69, 48}, {100, 50}}},
		{example(), 4, 0, 400, bigs(0, 0, 720, 9, 8, 1000), bigs(0, 0, 0, 13), bigs(97, 9, 8, 91), bigs(137, 329, 392, 376), [4]string{"0d03", "1819", "3804", "1f19"}, [3][2]int64{{0, 97}, {84, 0}, {11, 20}}},
		{other, 2, 3, 5, bigs(2, 7), bigs(3, 2), bigs(5, 7), bigs(54, 334), [4]string{"0005000c", "000b0021", "004500ec", "0083005e"}, [3][2]int64{{3, 5}, {21, 68}, {103, 355}}},
		{other, 1, 102, 359, nil, bigs(102), bigs(0), bigs(391), [4]string{"00660000", "00660000", "00660000", "00660000"}, [3][2]int64{{102, 0}, {102, 0}, {102, 0}}},
		{other, 3, 100, 0, bigs(1, 2, 3, 4, 5), bigs(100, 1, 2), bigs(0, 3, 4), bigs(339, 363, 279), [4]string{"00670007", "0088004c", "009d0093", "0063003e"}, [3][2]int64{{100, 0}, {271, 351}, {124, 98}}},
		{other, 4, 0, 400, bigs(0, 0, 720, 9, 8, 1000), bigs(0, 0, 0, 2), bigs(41, 9, 8, 282), bigs(48, 370, 217, 521), [4]string{"00020154", "0080012f", "004a0062", "0094002c"}, [3][2]int64{{0, 41}, {22, 282}, {136, 177}}},
	} {
		g := c.of.group
		d := mustDeal(t, c.of, c.threshold, number(c.secret), number(c.mask), c.draws)
		pledges := d.Pledges(g)
		if !areAll(d.Values, c.values) || !areAll(d.Masks, c.masks) || !areAll(pledges, c.pledges) {
			t.Errorf("Q %v, threshold %d: values %v, masks %v, pledges %v", c.of.q, c.threshold, allBig(d.Values), allBig(d.Masks), allBig(pledges))
		}
		var pieces []deal.Piece
		for i, peer := range []int{1, 4, 33, 64} {
			want, _ := hex.DecodeString(c.shares[i])
			s := mustShare(t, c.of, d, peer)
			if b, errno := deal.Bytes(g, s); errno != api.OK || !bytes.Equal(b, want) {
				t.Errorf("Q %v, threshold %d, peer %d: %x, error %d, not %x", c.of.q, c.threshold, peer, b, errno, want)
			}
			if back, errno := deal.Of(g, want); errno != api.OK || told(back) != told(s) {
				t.Errorf("Q %v, threshold %d, peer %d: Of(%x): %s, error %d", c.of.q, c.threshold, peer, want, told(back), errno)
			}
			if !deal.Right(g, c.threshold, pledges, peer, s) {
				t.Errorf("Q %v, threshold %d, peer %d: not right", c.of.q, c.threshold, peer)
			}
			pieces = append(pieces, deal.Piece{Peer: peer, Share: s})
		}
		for i, x := range []*big.Int{number(0), number(9), plus(c.of.q, 50)} {
			want := share{number(c.recovered[i][0]), number(c.recovered[i][1])}
			if got, errno := deal.Recover(g, c.threshold, pledges, pieces, fromBig(x)); errno != api.OK || !isShare(got, want) {
				t.Errorf("Q %v, threshold %d: at %v %s, error %d, not %v", c.of.q, c.threshold, x, told(got), errno, want)
			}
		}
	}
}

// P14.1: New

func checkNew(t *testing.T, s sample, threshold int, secret, mask *big.Int, draws []*big.Int) {
	t.Helper()
	want := s.dealt(threshold, secret, mask, draws)
	if got := mustDeal(t, s, threshold, secret, mask, draws); !areAll(got.Values, want.values) || !areAll(got.Masks, want.masks) {
		t.Errorf("Q %v: New(%d, %v, %v, %v): %v, %v", s.q, threshold, secret, mask, draws, allBig(got.Values), allBig(got.Masks))
	}
}

// Numbers about Q and longer ones are taken in the field, the secret and the mask too; draws beyond those that are needed aren't used.
func TestNew(t *testing.T) {
	random := rand.New(rand.NewSource(1))
	for _, s := range all() {
		list := s.exponents(random)
		for _, n := range list {
			checkNew(t, s, 1, n, number(1), nil)
			checkNew(t, s, 1, number(1), n, nil)
			checkNew(t, s, 2, number(2), number(3), []*big.Int{n, number(4)})
			checkNew(t, s, 2, number(2), number(3), []*big.Int{number(4), n})
		}
		for _, threshold := range []int{1, 2, 3, 4, 7, 21, 43, 63, 64} {
			for _, more := range []int{0, 1, 2, 50} {
				few := drawn(list, 2, random)
				checkNew(t, s, threshold, few[0], few[1], drawn(list, 2*threshold-2+more, random))
			}
		}
	}
}

func isNoDealing(d deal.Dealing) bool { return d.Values == nil && d.Masks == nil }

func TestNewOfFewDraws(t *testing.T) {
	draws := make([]nat.Nat, 2*api.MaxPeers)
	for _, s := range []sample{example(), greats()[0]} {
		for threshold := 1; threshold <= api.MaxPeers; threshold++ {
			for count := range len(draws) + 1 {
				want := api.OK
				if count < 2*threshold-2 {
					want = api.ErrFew
				}
				d, errno := deal.New(s.group, threshold, nat.New(1), nat.New(2), draws[:count])
				if errno != want || (want != api.OK && !isNoDealing(d)) {
					t.Fatalf("Q %v: threshold %d, %d draws: error %d", s.q, threshold, count, errno)
				}
			}
			if d, errno := deal.New(s.group, threshold, nat.New(1), nat.New(2), nil); threshold > 1 && (errno != api.ErrFew || !isNoDealing(d)) {
				t.Errorf("Q %v: threshold %d, no draws: error %d", s.q, threshold, errno)
			}
		}
	}
}

// wrongCounts: those that are no peer's number, and no threshold.
func wrongCounts() []int {
	return []int{math.MinInt, math.MinInt32, -101, -64, -2, -1, 0, 65, 66, 100, 101, 102, 165, 1 << 32, 1<<32 + 1, math.MaxInt/2 + 1, math.MaxInt/2 + 2, math.MaxInt}
}

// A threshold that can't be is told ahead of too few draws.
func TestNewOfWrongThresholds(t *testing.T) {
	for _, threshold := range wrongCounts() {
		for _, count := range []int{0, 1, 127, 128, 129, 130, 400} {
			if d, errno := deal.New(example().group, threshold, nat.New(1), nat.New(2), make([]nat.Nat, count)); errno != api.ErrArg || !isNoDealing(d) {
				t.Errorf("threshold %d, %d draws: error %d", threshold, count, errno)
			}
		}
	}
}

func TestNewOfNoGroup(t *testing.T) {
	for _, threshold := range append(wrongCounts(), 1, 2, 64) {
		for _, count := range []int{0, 1, 200} {
			if d, errno := deal.New(nil, threshold, nat.New(1), nat.New(2), make([]nat.Nat, count)); errno != api.ErrArg || !isNoDealing(d) {
				t.Errorf("threshold %d, %d draws: error %d", threshold, count, errno)
			}
		}
	}
}

// P14.1: Pledges, Share

// Of dealings that nobody made by New too: with unlike many coefficients, or with such as aren't below Q.
func TestPledgesAndShares(t *testing.T) {
	random := rand.New(rand.NewSource(2))
	for _, s := range all() {
		list := s.exponents(random)
		most := 6
		if s.q.BitLen() > 30 {
			most = 3
		}
		for i := range most {
			for k := range most {
				d := dealing{drawn(list, i, random), drawn(list, k, random)}
				if got := d.ours().Pledges(s.group); !areAll(got, s.pledgesOf(d)) {
					t.Errorf("Q %v: %v: Pledges %v", s.q, d, allBig(got))
				}
				for _, peer := range []int{1, 2, 3, 63, 64, 1 + random.Intn(64)} {
					if got := mustShare(t, s, d.ours(), peer); !isShare(got, s.shareOf(d, peer)) {
						t.Errorf("Q %v: %v: Share(%d): %s", s.q, d, peer, told(got))
					}
				}
			}
		}
	}
}

// All thresholds with all peers.
func TestPledgesAndSharesOfMany(t *testing.T) {
	random := rand.New(rand.NewSource(3))
	s := example()
	for threshold := 1; threshold <= api.MaxPeers; threshold++ {
		want := s.any(threshold, random)
		d := mustDeal(t, s, threshold, want.values[0], want.masks[0], append(append([]*big.Int{}, want.values[1:]...), want.masks[1:]...))
		if got := d.Pledges(s.group); !areAll(got, s.pledgesOf(want)) {
			t.Errorf("threshold %d: pledges %v", threshold, allBig(got))
		}
		for peer := 1; peer <= api.MaxPeers; peer++ {
			if got := mustShare(t, s, d, peer); !isShare(got, s.shareOf(want, peer)) {
				t.Errorf("threshold %d: Share(%d): %s, not %v", threshold, peer, told(got), s.shareOf(want, peer))
			}
		}
	}
}

func TestShareOfWrongPeers(t *testing.T) {
	random := rand.New(rand.NewSource(4))
	for _, s := range all() {
		d := s.any(3, random).ours()
		for _, peer := range wrongCounts() {
			if a, errno := d.Share(s.group, peer); errno != api.ErrArg || !isZeroValue(a) {
				t.Errorf("Q %v: Share(%d): %s, error %d", s.q, peer, told(a), errno)
			}
			if a, errno := (deal.Dealing{}).Share(s.group, peer); errno != api.ErrArg || !isZeroValue(a) {
				t.Errorf("Q %v: of nothing: Share(%d): %s, error %d", s.q, peer, told(a), errno)
			}
		}
	}
}

func TestPledgesAndShareOfNoGroup(t *testing.T) {
	for _, d := range []deal.Dealing{{}, {Values: nats(bigs(1, 2)), Masks: nats(bigs(3, 4))}, {Values: nats(bigs(1))}, {Masks: nats(bigs(1))}} {
		if c := d.Pledges(nil); c != nil {
			t.Errorf("Pledges %v", allBig(c))
		}
		for _, peer := range append(wrongCounts(), 1, 2, 64) {
			if a, errno := d.Share(nil, peer); errno != api.ErrArg || !isZeroValue(a) {
				t.Errorf("Share(%d): %s, error %d", peer, told(a), errno)
			}
		}
	}
}
