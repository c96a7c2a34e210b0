package deal_test

import (
	"math/big"
	"math/rand"
	"reflect"
	"slices"
	"sync"
	"testing"

	"sacristy/api"
	"sacristy/deal"
	"sacristy/nat"
)

// P14.3

// checkDealing: each share is right, and these peers' tell the secret and all other shares.
func checkDealing(t *testing.T, s sample, threshold int, d deal.Dealing, told [][]int) {
	t.Helper()
	pledges := d.Pledges(s.group)
	shares := make([]deal.Share, api.MaxPeers+1)
	for peer := 1; peer <= api.MaxPeers; peer++ {
		shares[peer] = mustShare(t, s, d, peer)
		if !deal.Right(s.group, threshold, pledges, peer, shares[peer]) {
			t.Errorf("Q %v, threshold %d: the share of %d isn't right", s.q, threshold, peer)
		}
	}
	shares[0] = deal.Share{S: d.Values[0], R: d.Masks[0]}
	for _, peers := range told {
		var pieces []deal.Piece
		for _, peer := range peers {
			pieces = append(pieces, deal.Piece{Peer: peer, Share: shares[peer]})
		}
		for x, want := range shares {
			got, errno := deal.Recover(s.group, threshold, pledges, pieces, nat.New(uint64(x)))
			if errno != api.OK || got.S.Cmp(want.S) != 0 || got.R.Cmp(want.R) != 0 {
				t.Fatalf("Q %v, threshold %d: peers %v at %d: error %d", s.q, threshold, peers, x, errno)
			}
		}
	}
}

func TestAnyTellTheSecret(t *testing.T) {
	random := rand.New(rand.NewSource(31))
	for _, s := range littles() {
		for _, threshold := range []int{1, 2, 3, 5, 9, 33, 64} {
			told := [][]int{somePeers(threshold, random), somePeers(threshold, random)}
			if threshold > 9 {
				told = told[:1]
			}
			list := s.exponents(random)
			few := drawn(list, 2, random)
			checkDealing(t, s, threshold, mustDeal(t, s, threshold, few[0], few[1], drawn(list, 2*threshold-2, random)), told)
		}
	}
}

func TestAnyTellTheSecretInGreatGroups(t *testing.T) {
	random := rand.New(rand.NewSource(32))
	s := greats()[0]
	for _, threshold := range []int{1, 2, 4} {
		checkDealing(t, s, threshold, s.any(threshold, random).ours(), [][]int{somePeers(threshold, random)})
	}
	great := greats()[1]
	d := great.any(3, random)
	var pieces []piece
	for _, peer := range somePeers(3, random) {
		pieces = append(pieces, great.pieceOf(d, peer))
	}
	got, errno := deal.Recover(great.group, 3, d.ours().Pledges(great.group), ourPieces(pieces), nat.New(0))
	if errno != api.OK || !isShare(got, share{d.values[0], d.masks[0]}) {
		t.Errorf("Q %v: %s, error %d", great.q, told(got), errno)
	}
}

// Each two of ten peers, and each three of eight.
func TestAllSetsTellTheSecret(t *testing.T) {
	random := rand.New(rand.NewSource(33))
	s := example()
	var twos, threes [][]int
	for a := 1; a <= 10; a++ {
		for b := a + 1; b <= 10; b++ {
			twos = append(twos, []int{b, a})
			for c := b + 1; c <= 8; c++ {
				threes = append(threes, []int{b, c, a})
			}
		}
	}
	checkDealing(t, s, 2, s.any(2, random).ours(), twos)
	checkDealing(t, s, 3, s.any(3, random).ours(), threes)
}

// disguised: the dealing of another secret with the same pledges, which gives these peers the same shares: H is G w times.
func (s sample) disguised(d dealing, peers []int, secret, w *big.Int) dealing {
	// It is 0 at the peers, and at 0 what the secret is more.
	more := []*big.Int{new(big.Int).Sub(secret, d.values[0])}
	for _, peer := range peers {
		factor := new(big.Int).ModInverse(number(int64(-peer)), s.q)
		next := append([]*big.Int{number(0)}, more...)
		for i, a := range more {
			next[i] = sum(next[i], product(a, number(int64(-peer))))
		}
		for i := range next {
			next[i] = s.within(product(next[i], factor))
		}
		more = next
	}
	other := dealing{slices.Clone(d.values), slices.Clone(d.masks)}
	divisor := new(big.Int).ModInverse(w, s.q)
	for i, a := range more {
		other.values[i] = s.within(sum(d.values[i], a))
		other.masks[i] = s.within(new(big.Int).Sub(d.masks[i], product(a, divisor)))
	}
	return other
}

// checkHidden: these peers' shares, and the pledges, are such as another secret would have.
func checkHidden(t *testing.T, s sample, d dealing, peers []int, secret, w *big.Int) {
	t.Helper()
	threshold := len(d.values)
	other := s.disguised(d, peers, secret, w)
	first := mustDeal(t, s, threshold, d.values[0], d.masks[0], slices.Concat(d.values[1:], d.masks[1:]))
	second := mustDeal(t, s, threshold, secret, other.masks[0], slices.Concat(other.values[1:], other.masks[1:]))
	if !reflect.DeepEqual(allBig(first.Pledges(s.group)), allBig(second.Pledges(s.group))) {
		t.Errorf("Q %v: secret %v, and %v: unlike pledges", s.q, d.values[0], secret)
	}
	for _, peer := range peers {
		if a, b := mustShare(t, s, first, peer), mustShare(t, s, second, peer); told(a) != told(b) {
			t.Errorf("Q %v: secret %v, and %v: peer %d has %s, and %s", s.q, d.values[0], secret, peer, told(a), told(b))
		}
	}
}

// Each other secret of a small group, with a peer fewer than the threshold.
func TestHidden(t *testing.T) {
	random := rand.New(rand.NewSource(34))
	for _, w := range bigs(1, 2, 50, 100) {
		s := example().based(w)
		for threshold := 1; threshold <= 5; threshold++ {
			d, peers := s.any(threshold, random), somePeers(threshold-1, random)
			for secret := range int64(101) {
				checkHidden(t, s, d, peers, number(secret), w)
			}
		}
	}
	for _, great := range greats() {
		w := plus(great.some(random), 1)
		s := great.based(w)
		checkHidden(t, s, s.any(3, random), []int{64, 1}, s.some(random), w)
	}
}

// One peer's share alone, and the pledges: each pair of numbers that opens could be any other peer's.
func TestFewTellNothing(t *testing.T) {
	s := example()
	d := dealing{bigs(3, 2), bigs(5, 7)}
	pledges := nats(s.pledgesOf(d))
	values := map[string]bool{}
	for value := range int64(101) {
		for mask := range int64(101) {
			a := share{number(value), number(mask)}.ours()
			if deal.Right(s.group, 2, pledges, 9, a) {
				secret, errno := deal.Recover(s.group, 2, pledges, []deal.Piece{{Peer: 9, Share: a}, {Peer: 4, Share: s.shareOf(d, 4).ours()}}, nat.New(0))
				if errno != api.OK {
					t.Errorf("%s: error %d", told(a), errno)
				}
				values[toBig(secret.S).String()] = true
			}
		}
	}
	if len(values) != 101 {
		t.Errorf("%d secrets", len(values))
	}
}

// spacious: a list with room behind it, in which something stands.
func spacious(list []*big.Int) []nat.Nat {
	return nats(append(slices.Clone(list), bigs(11, 12, 13, 14)...))[:len(list)]
}

// handed: all that is handed in.
type handed struct {
	s                      sample
	secret, mask, x        nat.Nat
	draws, pledges         []nat.Nat
	dealing                deal.Dealing
	pieces                 []deal.Piece
	share                  deal.Share
	values, masks, members []*big.Int
}

func newHanded(s sample) handed {
	d := dealing{bigs(3, 2), bigs(5, 7)}
	members := s.pledgesOf(d)
	pieces := ourPieces([]piece{s.pieceOf(d, 60), s.pieceOf(d, 7), s.pieceOf(d, 65), s.pieceOf(d, 2), s.pieceOf(d, 9)})
	return handed{
		s: s, secret: fromBig(plus(s.q, 3)), mask: nat.New(5), x: fromBig(plus(s.q, 9)),
		draws: spacious(append(bigs(2), plus(s.q, 7))), pledges: spacious(members), dealing: deal.Dealing{Values: spacious(d.values), Masks: spacious(d.masks)},
		pieces: pieces[:4], share: s.shareOf(d, 7).ours(), values: d.values, masks: d.masks, members: members,
	}
}

// answers: what all calls tell of these: numbers, and bytes.
func (h handed) answers() ([]nat.Nat, []byte) {
	g := h.s.group
	d, _ := deal.New(g, 2, h.secret, h.mask, h.draws)
	flat, _ := deal.New(g, 1, h.mask, h.secret, nil)
	list := slices.Concat(d.Values, d.Masks, flat.Values, flat.Masks, h.dealing.Pledges(g))
	b, _ := deal.Bytes(g, h.share)
	for _, told := range []func() (deal.Share, api.Errno){
		func() (deal.Share, api.Errno) { return h.dealing.Share(g, 7) },
		func() (deal.Share, api.Errno) {
			return deal.Dealing{Values: h.dealing.Values[:1], Masks: h.dealing.Masks[:1]}.Share(g, 7)
		},
		func() (deal.Share, api.Errno) { return deal.Recover(g, 2, h.pledges, h.pieces, h.x) },
		func() (deal.Share, api.Errno) { return deal.Recover(g, 2, h.pledges, h.pieces, nat.New(7)) },
		func() (deal.Share, api.Errno) { return deal.Of(g, b) },
	} {
		a, _ := told()
		list = append(list, a.S, a.R)
	}
	if deal.Right(g, 2, h.pledges, 7, h.share) {
		b = append(b, 1)
	}
	return list, b
}

// given: the numbers that are handed in.
func (h handed) given() []nat.Nat {
	list := slices.Concat([]nat.Nat{h.secret, h.mask, h.x, h.share.S, h.share.R}, h.draws[:6], h.pledges[:6], h.dealing.Values[:6], h.dealing.Masks[:6])
	for _, a := range h.pieces[:5] {
		list = append(list, nat.New(uint64(a.Peer)), a.Share.S, a.Share.R)
	}
	return list
}

// Neither the numbers change nor the lists, nor the room behind them; and the same is answered again, whatever was done to the first answer.
func TestNothingChanges(t *testing.T) {
	for _, s := range []sample{example(), littles()[2], greats()[0]} {
		h := newHanded(s)
		first, b := h.answers()
		again, bytesAgain := h.answers()
		clear(first)
		clear(b)
		third, bytesLater := h.answers()
		if !reflect.DeepEqual(again, third) || !reflect.DeepEqual(bytesAgain, bytesLater) {
			t.Errorf("Q %v: asked again, something else is answered", s.q)
		}
		if !reflect.DeepEqual(h.given(), newHanded(s).given()) {
			t.Errorf("Q %v: what was handed in has changed", s.q)
		}
	}
}

// What is done to a dealing's lists, or to a share's bytes, doesn't change what others were told.
func TestNothingIsKept(t *testing.T) {
	h := newHanded(example())
	g := h.s.group
	first, _ := deal.New(g, 2, h.secret, h.mask, h.draws)
	pledges, b := first.Pledges(g), []byte{1, 2}
	a, _ := deal.Of(g, b)
	clear(h.draws)
	clear(b)
	if !areAll(first.Values, bigs(3, 2)) || !areAll(first.Masks, bigs(5, 7)) || told(a) != "1 2" {
		t.Errorf("%v, %v, %s", allBig(first.Values), allBig(first.Masks), told(a))
	}
	clear(first.Values[:cap(first.Values)])
	if !areAll(first.Masks, bigs(5, 7)) || !areAll(pledges, h.members) {
		t.Errorf("%v, %v", allBig(first.Masks), allBig(pledges))
	}
}

func TestAnswersAreNewMemory(t *testing.T) {
	for _, s := range []sample{example(), littles()[2], greats()[0]} {
		h := newHanded(s)
		seen := map[uintptr]bool{}
		for _, a := range h.given() {
			seen[where(a)] = true
		}
		for range 2 {
			list, _ := h.answers()
			for i, a := range list {
				if seen[where(a)] {
					t.Errorf("Q %v: number %d of the answers shares memory", s.q, i)
				}
				seen[where(a)] = true
			}
		}
	}
}

// One group serves many at once.
func TestManyAtOnce(t *testing.T) {
	h := newHanded(greats()[0])
	want, b := h.answers()
	var wait sync.WaitGroup
	for range 8 {
		wait.Go(func() {
			if list, more := h.answers(); !reflect.DeepEqual(list, want) || !reflect.DeepEqual(more, b) {
				t.Error("another answer")
			}
		})
	}
	wait.Wait()
}
