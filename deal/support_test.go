package deal_test

import (
	"math/big"
	"math/rand"
	"reflect"
	"slices"
	"sync"
	"testing"

	"sacristy/api"
	"sacristy/cert"
	"sacristy/deal"
	"sacristy/group"
	"sacristy/nat"
)

// The library's own numbers are what ours are held against.

func toBig(a nat.Nat) *big.Int { return new(big.Int).SetBytes(a.Least()) }

// fromBig: nat's FromBytes takes 128 bytes at most, and some numbers here have more.
func fromBig(n *big.Int) nat.Nat {
	a, shift := nat.New(0), nat.New(256)
	for _, b := range n.Bytes() {
		a = a.Mul(shift).Add(nat.New(uint64(b)))
	}
	return a
}

func number(n int64) *big.Int { return big.NewInt(n) }

func power(bits uint) *big.Int { return new(big.Int).Lsh(number(1), bits) }

func plus(n *big.Int, more int64) *big.Int { return new(big.Int).Add(n, number(more)) }

func sum(a, b *big.Int) *big.Int { return new(big.Int).Add(a, b) }

func product(a, b *big.Int) *big.Int { return new(big.Int).Mul(a, b) }

func bigs(values ...int64) []*big.Int {
	list := make([]*big.Int, len(values))
	for i, value := range values {
		list[i] = number(value)
	}
	return list
}

func nats(list []*big.Int) []nat.Nat {
	all := make([]nat.Nat, len(list))
	for i, n := range list {
		all[i] = fromBig(n)
	}
	return all
}

func allBig(list []nat.Nat) []*big.Int {
	all := make([]*big.Int, len(list))
	for i, a := range list {
		all[i] = toBig(a)
	}
	return all
}

func is(a nat.Nat, want *big.Int) bool { return a.Cmp(fromBig(want)) == 0 }

func areAll(list []nat.Nat, want []*big.Int) bool { return slices.EqualFunc(list, want, is) }

func isZeroValue(a any) bool { return reflect.ValueOf(a).IsZero() }

// where: the memory in which a number's words stand.
func where(a nat.Nat) uintptr { return reflect.ValueOf(a).Field(0).Pointer() }

// drawn: so many of these numbers, in any order, one perhaps more than once.
func drawn(list []*big.Int, count int, random *rand.Rand) []*big.Int {
	all := make([]*big.Int, count)
	for i := range all {
		all[i] = list[random.Intn(len(list))]
	}
	return all
}

// orNought: the number that stands there; a missing one is 0.
func orNought(list []*big.Int, i int) *big.Int {
	if i < len(list) {
		return list[i]
	}
	return number(0)
}

// sample: a group, and what it is made of.
type sample struct {
	p, q, g, h *big.Int
	chain      []cert.Step
	group      *group.Group
}

func made(p, q, g *big.Int, chain []cert.Step) sample {
	made, errno := group.New(group.Params{P: fromBig(p), Q: fromBig(q), G: fromBig(g)}, chain)
	if made == nil || errno != api.OK {
		panic("no group of P " + p.String() + ", G " + g.String())
	}
	return sample{p: p, q: q, g: g, h: toBig(made.H()), chain: chain, group: made}
}

// based: the same group with another base, of which H, that doesn't hang on it, is the power w.
func (s sample) based(w *big.Int) sample {
	return made(s.p, s.q, s.exp(s.h, new(big.Int).ModInverse(w, s.q)), s.chain)
}

// exp: a power in the ring of P.
func (s sample) exp(a, e *big.Int) *big.Int { return new(big.Int).Exp(a, e, s.p) }

// mul: a product in the ring of P.
func (s sample) mul(a, b *big.Int) *big.Int {
	n := product(a, b)
	return n.Mod(n, s.p)
}

// within: a number in the field.
func (s sample) within(n *big.Int) *big.Int { return new(big.Int).Mod(n, s.q) }

// allWithin: numbers in the field.
func (s sample) allWithin(list []*big.Int) []*big.Int {
	all := make([]*big.Int, len(list))
	for i, n := range list {
		all[i] = s.within(n)
	}
	return all
}

// size: how many bytes Q needs.
func (s sample) size() int { return (s.q.BitLen() + 7) / 8 }

// pledge: chapter 13's words.
func (s sample) pledge(value, mask *big.Int) *big.Int {
	return s.mul(s.exp(s.g, value), s.exp(s.h, mask))
}

// pledges: chapter 13's words.
func (s sample) pledges(values, masks []*big.Int) []*big.Int {
	c := make([]*big.Int, max(len(values), len(masks)))
	for i := range c {
		c[i] = s.pledge(orNought(values, i), orNought(masks, i))
	}
	return c
}

func (s sample) isMember(a *big.Int) bool {
	return a.Sign() > 0 && a.Cmp(s.p) < 0 && s.exp(a, s.q).Cmp(number(1)) == 0
}

// valueOf: a polynomial's value in the field.
func (s sample) valueOf(p []*big.Int, x *big.Int) *big.Int {
	value := new(big.Int)
	for i, c := range p {
		value.Add(value, product(c, new(big.Int).Exp(x, number(int64(i)), s.q)))
	}
	return s.within(value)
}

// exponents: about 0, about Q, about P, and any, some longer than the field's.
func (s sample) exponents(random *rand.Rand) []*big.Int {
	return append(bigs(0, 1, 2, 63), plus(s.q, -1), s.q, plus(s.q, 1), sum(s.q, plus(s.q, 5)), plus(s.p, -1), s.p, power(1500), s.some(random), s.some(random), new(big.Int).Rand(random, product(s.q, s.q)))
}

// places: that of the secret, those of peers, about Q, and any.
func (s sample) places(random *rand.Rand) []*big.Int {
	return append(bigs(0, 1, 2, 64, 65), plus(s.q, -1), s.q, plus(s.q, 2), s.p, new(big.Int).Rand(random, power(600)))
}

// some: any number of the field.
func (s sample) some(random *rand.Rand) *big.Int { return new(big.Int).Rand(random, s.q) }

// share, piece, dealing: the chapter's words, over the library's numbers.
type share struct{ value, mask *big.Int }

type piece struct {
	peer  int
	share share
}

type dealing struct{ values, masks []*big.Int }

func (a share) ours() deal.Share {
	return deal.Share{S: fromBig(a.value), R: fromBig(a.mask)}
}

// moved: another share, by so much.
func (a share) moved(value, mask *big.Int) share {
	return share{sum(a.value, value), sum(a.mask, mask)}
}

func (a share) String() string { return a.value.String() + " " + a.mask.String() }

// isShare: are they the same numbers?
func isShare(a deal.Share, want share) bool { return is(a.S, want.value) && is(a.R, want.mask) }

// told: a share of ours, to be read.
func told(a deal.Share) string { return share{toBig(a.S), toBig(a.R)}.String() }

func ourPieces(list []piece) []deal.Piece {
	all := make([]deal.Piece, len(list))
	for i, a := range list {
		all[i] = deal.Piece{Peer: a.peer, Share: a.share.ours()}
	}
	return all
}

func (d dealing) ours() deal.Dealing {
	return deal.Dealing{Values: nats(d.values), Masks: nats(d.masks)}
}

// dealt: the chapter's words.
func (s sample) dealt(threshold int, secret, mask *big.Int, draws []*big.Int) dealing {
	return dealing{
		values: s.allWithin(append([]*big.Int{secret}, draws[:threshold-1]...)),
		masks:  s.allWithin(append([]*big.Int{mask}, draws[threshold-1:2*threshold-2]...)),
	}
}

// any: any dealing with this threshold.
func (s sample) any(threshold int, random *rand.Rand) dealing {
	draws := make([]*big.Int, 2*threshold)
	for i := range draws {
		draws[i] = s.some(random)
	}
	return s.dealt(threshold, draws[0], draws[1], draws[2:])
}

func (s sample) shareOf(d dealing, peer int) share {
	x := number(int64(peer))
	return share{s.valueOf(d.values, x), s.valueOf(d.masks, x)}
}

func (s sample) pledgesOf(d dealing) []*big.Int { return s.pledges(d.values, d.masks) }

// isRight: the chapter's words.
func (s sample) isRight(threshold int, pledges []*big.Int, peer int, a share) bool {
	if threshold < 1 || threshold > 64 || peer < 1 || peer > 64 || len(pledges) != threshold {
		return false
	}
	if a.value.Cmp(s.q) >= 0 || a.mask.Cmp(s.q) >= 0 {
		return false
	}
	at := number(1)
	for i, c := range pledges {
		if !s.isMember(c) {
			return false
		}
		at = s.mul(at, s.exp(c, new(big.Int).Exp(number(int64(peer)), number(int64(i)), s.q)))
	}
	return at.Cmp(s.pledge(a.value, a.mask)) == 0
}

// recovered: the chapter's words: whether there are enough pieces, and what they tell.
func (s sample) recovered(threshold int, pledges []*big.Int, pieces []piece, x *big.Int) (share, bool) {
	first := map[int]share{}
	for _, a := range pieces {
		if _, there := first[a.peer]; !there && s.isRight(threshold, pledges, a.peer, a.share) {
			first[a.peer] = a.share
		}
	}
	var peers []int
	for peer := range first {
		peers = append(peers, peer)
	}
	if slices.Sort(peers); len(peers) < threshold {
		return share{}, false
	}
	value, mask := new(big.Int), new(big.Int)
	for _, peer := range peers[:threshold] {
		weight := s.weight(peers[:threshold], peer, x)
		value.Add(value, product(weight, first[peer].value))
		mask.Add(mask, product(weight, first[peer].mask))
	}
	return share{s.within(value), s.within(mask)}, true
}

// weight: chapter 10's words.
func (s sample) weight(peers []int, peer int, x *big.Int) *big.Int {
	above, below := number(1), number(1)
	for _, other := range peers {
		if other != peer {
			above = s.within(product(above, plus(x, -int64(other))))
			below = s.within(product(below, number(int64(peer-other))))
		}
	}
	return s.within(above.Mul(above, below.ModInverse(below, s.q)))
}

// over: a group with Q in P - 1.
func over(p, q *big.Int, chain []cert.Step) sample {
	often := new(big.Int).Div(plus(p, -1), q)
	for a := int64(2); ; a++ {
		if g := new(big.Int).Exp(number(a), often, p); g.Cmp(number(1)) > 0 {
			return made(p, q, g, chain)
		}
	}
}

// primeOver: a prime of so many bits that p divides when 1 is taken off.
func primeOver(random *rand.Rand, bits uint, p *big.Int) *big.Int {
	unit := new(big.Int).Lsh(p, 1)
	for {
		n := sum(power(bits-1), new(big.Int).Rand(random, power(bits-1)))
		n.Add(n.Sub(n, new(big.Int).Mod(n, unit)), number(1))
		if n.BitLen() == int(bits) && n.ProbablyPrime(20) {
			return n
		}
	}
}

// climbed: a group over primes of so many bits, each of them over the one ahead; P is the last one, Q the last one but one.
func climbed(seed int64, bits ...uint) sample {
	random := rand.New(rand.NewSource(seed))
	p, q := number(65521), number(0)
	var chain []cert.Step
	for _, b := range bits {
		p, q = primeOver(random, b, p), p
		chain = append(chain, cert.Step{N: fromBig(p), Base: nat.New(2), Primes: []nat.Nat{fromBig(q)}})
	}
	return over(p, q, chain)
}

// example: that of chapter 9.
func example() sample { return made(number(607), number(101), number(64), nil) }

// littles: groups of small primes: the least Q, Q of more than a byte, and Q often in P - 1.
func littles() []sample {
	return []sample{
		example(), over(number(269), number(67), nil), over(number(719), number(359), nil), over(number(17957), number(67), nil), over(number(65497), number(2729), nil),
	}
}

// greats: Q of fewer bits than P by some and by many, with P as great as may be.
var greats = sync.OnceValue(func() []sample {
	return []sample{climbed(41, 29, 53, 100, 190, 350), climbed(42, 29, 53, 100, 190, 350, 600, 1024)}
})

func all() []sample { return append(littles(), greats()...) }

// mustDeal: a dealing that there must be.
func mustDeal(t *testing.T, s sample, threshold int, secret, mask *big.Int, draws []*big.Int) deal.Dealing {
	t.Helper()
	d, errno := deal.New(s.group, threshold, fromBig(secret), fromBig(mask), nats(draws))
	if errno != api.OK {
		t.Fatalf("Q %v: New(%d, %v, %v, %v): error %d", s.q, threshold, secret, mask, draws, errno)
	}
	return d
}

// mustShare: a share that there must be.
func mustShare(t *testing.T, s sample, d deal.Dealing, peer int) deal.Share {
	t.Helper()
	a, errno := d.Share(s.group, peer)
	if errno != api.OK {
		t.Fatalf("Q %v: Share(%d): error %d", s.q, peer, errno)
	}
	return a
}
