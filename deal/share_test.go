package deal_test

import (
	"bytes"
	"math/big"
	"math/rand"
	"slices"
	"testing"

	"sacristy/api"
	"sacristy/deal"
	"sacristy/nat"
)

// P14.2: Right

func checkRight(t *testing.T, s sample, threshold int, pledges []*big.Int, peer int, a share) {
	t.Helper()
	want := s.isRight(threshold, pledges, peer, a)
	if got := deal.Right(s.group, threshold, nats(pledges), peer, a.ours()); got != want {
		t.Errorf("Q %v: Right(%d, %v, %d, %v): %v", s.q, threshold, pledges, peer, a, got)
	}
}

// All values and all masks of a small group, and a bit more.
func TestRightOfAll(t *testing.T) {
	s, count := example(), 0
	d := dealing{bigs(3, 2), bigs(5, 7)}
	pledges := s.pledgesOf(d)
	for value := range int64(104) {
		for mask := range int64(104) {
			a := share{number(value), number(mask)}
			checkRight(t, s, 2, pledges, 4, a)
			if deal.Right(s.group, 2, nats(pledges), 4, a.ours()) {
				count++
			}
		}
	}
	if count != 101 {
		t.Errorf("%d are right", count)
	}
}

// near: shares about this one, in the field and beyond it, with its numbers the other way about.
func (s sample) near(a share) []share {
	q := s.q
	return []share{
		a, a.moved(q, number(0)), a.moved(number(0), q), a.moved(q, q), a.moved(product(q, q), number(0)),
		a.moved(number(1), number(0)), a.moved(number(0), number(1)), {a.mask, a.value}, {number(0), number(0)},
	}
}

func TestRight(t *testing.T) {
	random := rand.New(rand.NewSource(5))
	for _, s := range all() {
		for threshold := 1; threshold <= 4; threshold++ {
			d := s.any(threshold, random)
			pledges := s.pledgesOf(d)
			for _, peer := range []int{1, 2, 64} {
				for _, a := range s.near(s.shareOf(d, peer)) {
					checkRight(t, s, threshold, pledges, peer, a)
				}
				checkRight(t, s, threshold, pledges, peer%64+1, s.shareOf(d, peer))
			}
		}
	}
}

// Numbers that are just not below Q open too, but aren't right.
func TestRightNotBelowQ(t *testing.T) {
	random := rand.New(rand.NewSource(6))
	for _, s := range all() {
		for _, d := range []dealing{{bigs(0), bigs(1)}, {bigs(1), bigs(0)}, {bigs(0), bigs(0)}, s.any(2, random)} {
			pledges, a := nats(s.pledgesOf(d)), s.shareOf(d, 5)
			threshold := len(pledges)
			if !deal.Right(s.group, threshold, pledges, 5, a.ours()) {
				t.Errorf("Q %v: %v isn't right", s.q, a)
			}
			for _, b := range []share{a.moved(s.q, number(0)), a.moved(number(0), s.q), a.moved(power(2000), number(0)), a.moved(number(0), power(2000))} {
				if deal.Right(s.group, threshold, pledges, 5, b.ours()) {
					t.Errorf("Q %v: %v is right", s.q, b)
				}
			}
		}
	}
}

// Each threshold has its own number of pledges: with one more, of a coefficient of 0, the same shares open.
func TestRightOfUnlikeManyPledges(t *testing.T) {
	random := rand.New(rand.NewSource(7))
	s := example()
	for threshold := 1; threshold <= api.MaxPeers; threshold++ {
		d := s.any(threshold, random)
		d.values[threshold-1], d.masks[threshold-1] = number(0), number(0)
		pledges, a := nats(s.pledgesOf(d)), s.shareOf(d, 7).ours()
		if !deal.Right(s.group, threshold, pledges, 7, a) {
			t.Errorf("threshold %d: not right", threshold)
		}
		for other := -1; other <= api.MaxPeers+2; other++ {
			if other != threshold && deal.Right(s.group, other, pledges, 7, a) {
				t.Errorf("%d pledges: right with the threshold %d", threshold, other)
			}
		}
		if deal.Right(s.group, threshold, pledges[:threshold-1], 7, a) || deal.Right(s.group, threshold, append(pledges, nat.New(1)), 7, a) {
			t.Errorf("threshold %d: right with a pledge less, or more", threshold)
		}
	}
}

// As many pledges as the threshold says, and what opens them, but a threshold that can't be.
func TestRightOfWrongThresholds(t *testing.T) {
	s := example()
	ones, nothing := slices.Repeat(nats(bigs(1)), 200), deal.Share{}
	for threshold := range len(ones) + 1 {
		want := 1 <= threshold && threshold <= 64
		if got := deal.Right(s.group, threshold, ones[:threshold], 1, nothing); got != want {
			t.Errorf("threshold %d: %v", threshold, got)
		}
	}
	for _, threshold := range wrongCounts() {
		if deal.Right(s.group, threshold, nil, 1, nothing) || deal.Right(s.group, threshold, ones, 1, nothing) {
			t.Errorf("threshold %d: right", threshold)
		}
	}
}

// What opens the pledges where no peer is isn't right: at 0 the secret would.
func TestRightOfWrongPeers(t *testing.T) {
	random := rand.New(rand.NewSource(8))
	for _, s := range all() {
		d := s.any(2, random)
		pledges := nats(s.pledgesOf(d))
		for _, peer := range wrongCounts() {
			// As the number of this many bits without a sign, too, it has a place.
			for _, x := range []*big.Int{number(int64(peer)), new(big.Int).SetUint64(uint64(peer))} {
				a := share{s.valueOf(d.values, s.within(x)), s.valueOf(d.masks, s.within(x))}
				if deal.Right(s.group, 2, pledges, peer, a.ours()) {
					t.Errorf("Q %v: right of peer %d", s.q, peer)
				}
			}
		}
		flat := dealing{bigs(7), bigs(8)}
		for _, peer := range wrongCounts() {
			if deal.Right(s.group, 1, nats(s.pledgesOf(flat)), peer, share{number(7), number(8)}.ours()) {
				t.Errorf("Q %v: threshold 1: right of peer %d", s.q, peer)
			}
		}
	}
}

// Pledges that go round to right ones, and those whose signs cancel at odd peers, are opened, but are no members.
func TestRightOfNoMembers(t *testing.T) {
	random := rand.New(rand.NewSource(9))
	for _, s := range all() {
		d := s.any(2, random)
		c, a := s.pledgesOf(d), s.shareOf(d, 3).ours()
		for i, other := range [][]*big.Int{
			{sum(s.p, c[0]), c[1]}, {c[0], sum(s.p, c[1])}, {sum(c[0], new(big.Int).Lsh(s.p, 64)), c[1]},
			{new(big.Int).Sub(s.p, c[0]), new(big.Int).Sub(s.p, c[1])}, {number(0), c[1]}, {c[0], number(0)}, {number(0), number(0)},
		} {
			if deal.Right(s.group, 2, nats(other), 3, a) {
				t.Errorf("Q %v: pledges %d, no members: right", s.q, i)
			}
		}
		if !deal.Right(s.group, 2, nats(c), 3, a) {
			t.Errorf("Q %v: not right", s.q)
		}
	}
}

func TestRightOfNoGroup(t *testing.T) {
	for _, pledges := range [][]nat.Nat{nil, nats(bigs(0)), nats(bigs(1)), nats(bigs(1, 1))} {
		for threshold := range 3 {
			for peer := range 3 {
				if deal.Right(nil, threshold, pledges, peer, deal.Share{}) {
					t.Errorf("%d pledges: right", len(pledges))
				}
			}
		}
	}
}

// P14.2: Bytes, Of

func checkBytes(t *testing.T, s sample, a share) {
	t.Helper()
	want := append(a.value.FillBytes(make([]byte, s.size())), a.mask.FillBytes(make([]byte, s.size()))...)
	b, errno := deal.Bytes(s.group, a.ours())
	if errno != api.OK || !bytes.Equal(b, want) {
		t.Errorf("Q %v: Bytes(%v): %x, error %d, not %x", s.q, a, b, errno, want)
	}
	if back, errno := deal.Of(s.group, want); errno != api.OK || !isShare(back, a) {
		t.Errorf("Q %v: Of(%x): %s, error %d, not %v", s.q, want, told(back), errno, a)
	}
}

func TestBytes(t *testing.T) {
	random := rand.New(rand.NewSource(10))
	for _, s := range all() {
		list := append(bigs(0, 1, 2, 66), plus(s.q, -1), s.some(random), s.some(random))
		for _, value := range list {
			for _, mask := range list {
				checkBytes(t, s, share{value, mask})
			}
		}
	}
}

// All pairs of bytes.
func TestOfAllPairs(t *testing.T) {
	s := example()
	for value := range int64(256) {
		for mask := range int64(256) {
			a := share{number(value), number(mask)}
			if value < 101 && mask < 101 {
				checkBytes(t, s, a)
				continue
			}
			if got, errno := deal.Of(s.group, []byte{byte(value), byte(mask)}); errno != api.ErrForm || !isZeroValue(got) {
				t.Errorf("Of(%v): %s, error %d", a, told(got), errno)
			}
		}
	}
}

func TestBytesNotBelowQ(t *testing.T) {
	random := rand.New(rand.NewSource(11))
	for _, s := range all() {
		for _, above := range []*big.Int{s.q, plus(s.q, 1), s.p, product(s.q, s.q), power(uint(8 * s.size())), plus(power(uint(8*s.size())), -1), power(2000)} {
			for _, a := range []share{{above, number(0)}, {number(0), above}, {above, above}, {above, s.some(random)}, {s.some(random), above}} {
				if b, errno := deal.Bytes(s.group, a.ours()); errno != api.ErrRange || b != nil {
					t.Errorf("Q %v: Bytes(%v): %x, error %d", s.q, a, b, errno)
				}
			}
		}
	}
}

func TestOfNotBelowQ(t *testing.T) {
	random := rand.New(rand.NewSource(12))
	for _, s := range all() {
		size := s.size()
		for _, above := range []*big.Int{s.q, plus(s.q, 1), plus(power(uint(8*size)), -1)} {
			if above.BitLen() > 8*size {
				continue
			}
			wrong, right := above.FillBytes(make([]byte, size)), s.some(random).FillBytes(make([]byte, size))
			for _, b := range [][]byte{append(slices.Clone(wrong), right...), append(slices.Clone(right), wrong...), append(slices.Clone(wrong), wrong...)} {
				if got, errno := deal.Of(s.group, b); errno != api.ErrForm || !isZeroValue(got) {
					t.Errorf("Q %v: Of(%x): %s, error %d", s.q, b, told(got), errno)
				}
			}
		}
	}
}

func TestOfAnotherLength(t *testing.T) {
	for _, s := range all() {
		for count := range 4*s.size() + 300 {
			if count == 2*s.size() {
				continue
			}
			if got, errno := deal.Of(s.group, make([]byte, count)); errno != api.ErrForm || !isZeroValue(got) {
				t.Errorf("Q %v: Of(%d noughts): %s, error %d", s.q, count, told(got), errno)
			}
		}
		if got, errno := deal.Of(s.group, nil); errno != api.ErrForm || !isZeroValue(got) {
			t.Errorf("Q %v: Of(nil): %s, error %d", s.q, told(got), errno)
		}
	}
}

func TestBytesAndOfNoGroup(t *testing.T) {
	for n := range uint64(4) {
		if b, errno := deal.Bytes(nil, deal.Share{S: nat.New(n >> 1), R: nat.New(n & 1)}); errno != api.ErrArg || b != nil {
			t.Errorf("Bytes: %x, error %d", b, errno)
		}
		for _, b := range [][]byte{nil, {}, make([]byte, 2*n), make([]byte, 2*n+1)} {
			if got, errno := deal.Of(nil, b); errno != api.ErrArg || !isZeroValue(got) {
				t.Errorf("Of(%x): %s, error %d", b, told(got), errno)
			}
		}
	}
}
