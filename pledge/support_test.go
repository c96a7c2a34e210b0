package pledge_test

import (
	"math/big"
	"math/rand"
	"reflect"
	"slices"
	"sync"

	"sacristy/api"
	"sacristy/cert"
	"sacristy/group"
	"sacristy/nat"
)

// The library's own numbers are what ours are held against.

func toBig(a nat.Nat) *big.Int { return new(big.Int).SetBytes(a.Least()) }

// fromBig: nat's FromBytes takes 128 bytes at most, and some numbers here have more.
func fromBig(n *big.Int) nat.Nat {
	a, shift := nat.New(0), nat.New(256)
	for _, b := range n.Bytes() {
		a = a.Mul(shift).Add(nat.New(uint64(b)))
	}
	return a
}

func number(n int64) *big.Int { return big.NewInt(n) }

func power(bits uint) *big.Int { return new(big.Int).Lsh(number(1), bits) }

func plus(n *big.Int, more int64) *big.Int { return new(big.Int).Add(n, number(more)) }

func sum(a, b *big.Int) *big.Int { return new(big.Int).Add(a, b) }

func product(a, b *big.Int) *big.Int { return new(big.Int).Mul(a, b) }

func bigs(values ...int64) []*big.Int {
	list := make([]*big.Int, len(values))
	for i, value := range values {
		list[i] = number(value)
	}
	return list
}

func nats(list []*big.Int) []nat.Nat {
	all := make([]nat.Nat, len(list))
	for i, n := range list {
		all[i] = fromBig(n)
	}
	return all
}

func allBig(list []nat.Nat) []*big.Int {
	all := make([]*big.Int, len(list))
	for i, a := range list {
		all[i] = toBig(a)
	}
	return all
}

func is(a nat.Nat, want *big.Int) bool { return a.Cmp(fromBig(want)) == 0 }

func areAll(list []nat.Nat, want []*big.Int) bool {
	return slices.EqualFunc(list, want, is)
}

func isZeroValue(a nat.Nat) bool { return reflect.ValueOf(a).IsZero() }

// where: the memory in which a number's words stand.
func where(a nat.Nat) uintptr { return reflect.ValueOf(a).Field(0).Pointer() }

// drawn: so many of these numbers, in any order, one perhaps more than once.
func drawn(list []*big.Int, count int, random *rand.Rand) []*big.Int {
	all := make([]*big.Int, count)
	for i := range all {
		all[i] = list[random.Intn(len(list))]
	}
	return all
}

// orMissing: the number that stands there, or what a missing one is.
func orMissing(list []*big.Int, i int, missing int64) *big.Int {
	if i < len(list) {
		return list[i]
	}
	return number(missing)
}

// sample: a group, and what it is made of.
type sample struct {
	p, q, g, h *big.Int
	chain      []cert.Step
	group      *group.Group
}

func made(p, q, g *big.Int, chain []cert.Step) sample {
	made, errno := group.New(group.Params{P: fromBig(p), Q: fromBig(q), G: fromBig(g)}, chain)
	if made == nil || errno != api.OK {
		panic("no group of P " + p.String() + ", G " + g.String())
	}
	return sample{p: p, q: q, g: g, h: toBig(made.H()), chain: chain, group: made}
}

// based: the same group with another base, of which H, that doesn't hang on it, is the power w.
func (s sample) based(w *big.Int) sample {
	return made(s.p, s.q, s.exp(s.h, new(big.Int).ModInverse(w, s.q)), s.chain)
}

// exp: a power in the ring of P.
func (s sample) exp(a, e *big.Int) *big.Int { return new(big.Int).Exp(a, e, s.p) }

// mul: a product in the ring of P.
func (s sample) mul(a, b *big.Int) *big.Int {
	n := product(a, b)
	return n.Mod(n, s.p)
}

// within: a number in the field.
func (s sample) within(n *big.Int) *big.Int { return new(big.Int).Mod(n, s.q) }

// of: the chapter's words.
func (s sample) of(value, mask *big.Int) *big.Int {
	return s.mul(s.exp(s.g, value), s.exp(s.h, mask))
}

// all: the chapter's words.
func (s sample) all(p, m []*big.Int) []*big.Int {
	c := make([]*big.Int, max(len(p), len(m)))
	for i := range c {
		c[i] = s.of(orMissing(p, i, 0), orMissing(m, i, 0))
	}
	return c
}

// at: chapter 10's words: x is taken in the field, its products aren't.
func (s sample) at(c []*big.Int, x *big.Int) *big.Int {
	value, often := number(1), number(1)
	for _, a := range c {
		value = s.mul(value, s.exp(a, often))
		often = product(often, s.within(x))
	}
	return value
}

// joined: the chapter's words.
func (s sample) joined(rows ...[]*big.Int) []*big.Int {
	longest := 0
	for _, row := range rows {
		longest = max(longest, len(row))
	}
	c := make([]*big.Int, longest)
	for i := range c {
		c[i] = number(1)
		for _, row := range rows {
			c[i] = s.mul(c[i], orMissing(row, i, 1))
		}
	}
	return c
}

func (s sample) isMember(a *big.Int) bool {
	return a.Sign() > 0 && a.Cmp(s.p) < 0 && s.exp(a, s.q).Cmp(number(1)) == 0
}

// valueOf: a polynomial's value in the field.
func (s sample) valueOf(p []*big.Int, x *big.Int) *big.Int {
	value := new(big.Int)
	for i, c := range p {
		value.Add(value, product(c, new(big.Int).Exp(x, number(int64(i)), s.q)))
	}
	return s.within(value)
}

// sumOf: the sums, place by place, of two polynomials.
func (s sample) sumOf(p, q []*big.Int) []*big.Int {
	all := make([]*big.Int, max(len(p), len(q)))
	for i := range all {
		all[i] = s.within(sum(orMissing(p, i, 0), orMissing(q, i, 0)))
	}
	return all
}

// exponents: about 0, about Q, about P, and any, some longer than the field's.
func (s sample) exponents(random *rand.Rand) []*big.Int {
	return append(bigs(0, 1, 2, 63), plus(s.q, -1), s.q, plus(s.q, 1), sum(s.q, plus(s.q, 5)), plus(s.p, -1), s.p, power(1500), new(big.Int).Rand(random, s.q), new(big.Int).Rand(random, s.q), new(big.Int).Rand(random, product(s.q, s.q)))
}

// places: those of peers, about Q, and any.
func (s sample) places(random *rand.Rand) []*big.Int {
	return append(bigs(0, 1, 2, 3, 64), plus(s.q, -1), s.q, plus(s.q, 2), s.p, new(big.Int).Rand(random, power(600)))
}

// noMembers: numbers that are none, with those among them that go round to the member a, and its negative.
func (s sample) noMembers(a *big.Int) []*big.Int {
	return []*big.Int{
		number(0), plus(s.p, -1), new(big.Int).Sub(s.p, a), s.p, plus(s.p, 1), sum(s.p, a), sum(s.p, sum(s.p, a)), power(2000),
		sum(a, new(big.Int).Lsh(s.p, 64)),
	}
}

// some: members, and numbers that are none, below P and above it.
func (s sample) some(random *rand.Rand) []*big.Int {
	return slices.Concat(bigs(1, 2, 3), []*big.Int{s.q, s.g, s.h, s.of(number(7), number(8)), new(big.Int).Rand(random, s.p), new(big.Int).Rand(random, product(s.p, s.p))}, s.noMembers(s.g))
}

// over: a group with Q in P - 1.
func over(p, q *big.Int, chain []cert.Step) sample {
	often := new(big.Int).Div(plus(p, -1), q)
	for a := int64(2); ; a++ {
		if g := new(big.Int).Exp(number(a), often, p); g.Cmp(number(1)) > 0 {
			return made(p, q, g, chain)
		}
	}
}

// primeOver: a prime of so many bits that p divides when 1 is taken off.
func primeOver(random *rand.Rand, bits uint, p *big.Int) *big.Int {
	unit := new(big.Int).Lsh(p, 1)
	for {
		n := sum(power(bits-1), new(big.Int).Rand(random, power(bits-1)))
		n.Add(n.Sub(n, new(big.Int).Mod(n, unit)), number(1))
		if n.BitLen() == int(bits) && n.ProbablyPrime(20) {
			return n
		}
	}
}

// climbed: a group over primes of so many bits, each of them over the one ahead; P is the last one, Q the last one but one.
func climbed(seed int64, bits ...uint) sample {
	random := rand.New(rand.NewSource(seed))
	p, q := number(65521), number(0)
	var chain []cert.Step
	for _, b := range bits {
		p, q = primeOver(random, b, p), p
		chain = append(chain, cert.Step{N: fromBig(p), Base: nat.New(2), Primes: []nat.Nat{fromBig(q)}})
	}
	return over(p, q, chain)
}

// example: that of chapter 9.
func example() sample { return made(number(607), number(101), number(64), nil) }

// littles: groups of small primes: the least Q, Q half of P, and Q often in P - 1.
func littles() []sample {
	return []sample{
		example(), over(number(269), number(67), nil), over(number(719), number(359), nil), over(number(17957), number(67), nil), over(number(65497), number(2729), nil),
	}
}

// greats: Q of fewer bits than P by some and by many, with P as great as may be.
var greats = sync.OnceValue(func() []sample {
	return []sample{climbed(31, 29, 53, 100, 190, 350), climbed(32, 29, 53, 100, 190, 350, 600, 1024)}
})

func all() []sample { return append(littles(), greats()...) }
