package curve_test

import (
	"math/big"
	"math/rand"
	"reflect"
	"testing"

	"sacristy/api"
	"sacristy/cert"
	"sacristy/group"
	"sacristy/mod"
	"sacristy/nat"
)

// The library's own numbers are what ours are held against.

func toBig(a nat.Nat) *big.Int { return new(big.Int).SetBytes(a.Least()) }

// fromBig: nat's FromBytes takes 128 bytes at most, and some numbers here have more.
func fromBig(n *big.Int) nat.Nat {
	a, shift := nat.New(0), nat.New(256)
	for _, b := range n.Bytes() {
		a = a.Mul(shift).Add(nat.New(uint64(b)))
	}
	return a
}

func number(n int64) *big.Int { return big.NewInt(n) }

func power(bits uint) *big.Int { return new(big.Int).Lsh(number(1), bits) }

func plus(n *big.Int, more int64) *big.Int { return new(big.Int).Add(n, number(more)) }

func times(n *big.Int, often int64) *big.Int { return new(big.Int).Mul(n, number(often)) }

func bigs(values ...int64) []*big.Int {
	list := make([]*big.Int, len(values))
	for i, value := range values {
		list[i] = number(value)
	}
	return list
}

func nats(list []*big.Int) []nat.Nat {
	all := make([]nat.Nat, len(list))
	for i, n := range list {
		all[i] = fromBig(n)
	}
	return all
}

func allBig(list []nat.Nat) []*big.Int {
	all := make([]*big.Int, len(list))
	for i, a := range list {
		all[i] = toBig(a)
	}
	return all
}

func is(a nat.Nat, want *big.Int) bool { return a.Cmp(fromBig(want)) == 0 }

func areAll(list []nat.Nat, want []*big.Int) bool {
	if len(list) != len(want) {
		return false
	}
	for i, a := range list {
		if !is(a, want[i]) {
			return false
		}
	}
	return true
}

func isZeroValue(a nat.Nat) bool { return reflect.DeepEqual(a, nat.Nat{}) }

func ring(t *testing.T, m *big.Int) *mod.Ring {
	t.Helper()
	f, errno := mod.New(fromBig(m))
	if f == nil || errno != api.OK {
		t.Fatalf("no ring of %v: error %d", m, errno)
	}
	return f
}

// primes: those of small fields, and of fields of many words.
func primes() []*big.Int {
	return append(bigs(2, 3, 5, 7, 101, 65521), plus(power(127), -1), plus(power(255), -19), plus(power(521), -1))
}

// moduli: the primes, and others, in the rings of which some numbers have no inverse.
func moduli() []*big.Int {
	return append(primes(), append(bigs(4, 6, 8, 15, 91, 1<<32), power(256), plus(power(128), -1))...)
}

// someFor: numbers for a ring: about 0, about its modulus, and any, below and above it.
func someFor(m *big.Int, random *rand.Rand) []*big.Int {
	return append(bigs(0, 1, 2, 3), plus(m, -1), m, plus(m, 1), times(m, 7), plus(times(m, 5), -2), new(big.Int).Rand(random, m), new(big.Int).Rand(random, m), new(big.Int).Rand(random, new(big.Int).Mul(m, m)))
}

// drawn: so many of these numbers, in any order, one perhaps more than once.
func drawn(list []*big.Int, count int, random *rand.Rand) []*big.Int {
	all := make([]*big.Int, count)
	for i := range all {
		all[i] = list[random.Intn(len(list))]
	}
	return all
}

// valueOf: the chapter's words, over the library's numbers.
func valueOf(p []*big.Int, x, m *big.Int) *big.Int {
	sum := new(big.Int)
	for i, c := range p {
		sum.Add(sum, new(big.Int).Mul(c, new(big.Int).Exp(x, number(int64(i)), m)))
	}
	return sum.Mod(sum, m)
}

// faultOf: the chapter's words: the error that places, with so many values beside them, have in a ring.
func faultOf(xs []*big.Int, values int, m *big.Int) api.Errno {
	if len(xs) == 0 {
		return api.ErrFew
	}
	if len(xs) != values {
		return api.ErrArg
	}
	errno := api.OK
	for i, a := range xs {
		for _, b := range xs[:i] {
			difference := new(big.Int).Mod(new(big.Int).Sub(a, b), m)
			if difference.Sign() == 0 {
				return api.ErrSame
			}
			if new(big.Int).ModInverse(difference, m) == nil {
				errno = api.ErrNone
			}
		}
	}
	return errno
}

// weightsOf: the chapter's words, where there is no fault.
func weightsOf(xs []*big.Int, x, m *big.Int) []*big.Int {
	weights := make([]*big.Int, len(xs))
	for i, own := range xs {
		weight := number(1)
		for k, other := range xs {
			if k != i {
				weight.Mul(weight, new(big.Int).Sub(x, other))
				weight.Mul(weight, new(big.Int).ModInverse(new(big.Int).Mod(new(big.Int).Sub(own, other), m), m))
			}
		}
		weights[i] = weight.Mod(weight, m)
	}
	return weights
}

// joined: the sum of all values, each its weight times.
func joined(xs, ys []*big.Int, x, m *big.Int) *big.Int {
	sum := new(big.Int)
	for i, weight := range weightsOf(xs, x, m) {
		sum.Add(sum, weight.Mul(weight, ys[i]))
	}
	return sum.Mod(sum, m)
}

// sample: the parameters of a group, and why P and Q are primes.
type sample struct {
	p, q, g *big.Int
	chain   []cert.Step
}

func (s sample) group(t *testing.T) *group.Group {
	t.Helper()
	g, errno := group.New(group.Params{P: fromBig(s.p), Q: fromBig(s.q), G: fromBig(s.g)}, s.chain)
	if g == nil || errno != api.OK {
		t.Fatalf("no group of P %v, Q %v, G %v: error %d", s.p, s.q, s.g, errno)
	}
	return g
}

// exp: a power in the ring of P.
func (s sample) exp(a, e *big.Int) *big.Int { return new(big.Int).Exp(a, e, s.p) }

// mul: a product in the ring of P.
func (s sample) mul(a, b *big.Int) *big.Int {
	product := new(big.Int).Mul(a, b)
	return product.Mod(product, s.p)
}

// powers: the base with each of these as its exponent.
func (s sample) powers(exps []*big.Int) []*big.Int {
	all := make([]*big.Int, len(exps))
	for i, e := range exps {
		all[i] = s.exp(s.g, e)
	}
	return all
}

// valueOf: the chapter's words: x is taken in the field, its products aren't.
func (s sample) valueOf(c []*big.Int, x *big.Int) *big.Int {
	within := new(big.Int).Mod(x, s.q)
	product, often := number(1), number(1)
	for _, a := range c {
		product = s.mul(product, s.exp(a, often))
		often = new(big.Int).Mul(often, within)
	}
	return product
}

// joined: the chapter's words.
func (s sample) joined(xs, ys []*big.Int, x *big.Int) *big.Int {
	product := number(1)
	for i, weight := range weightsOf(xs, x, s.q) {
		product = s.mul(product, s.exp(ys[i], weight))
	}
	return product
}

// some: members, and numbers that are none, below P and above it.
func (s sample) some(random *rand.Rand) []*big.Int {
	return append(bigs(0, 1, 2, 3), s.q, plus(s.p, -1), s.p, plus(s.p, 2), s.g, s.exp(s.g, number(77)), new(big.Int).Add(s.p, s.g), new(big.Int).Rand(random, s.p), new(big.Int).Rand(random, new(big.Int).Mul(s.p, s.p)))
}

// example: that of chapter 9.
func example() sample { return sample{p: number(607), q: number(101), g: number(64)} }

// over: a group with Q in P - 1.
func over(p, q *big.Int, chain []cert.Step) sample {
	often := new(big.Int).Div(plus(p, -1), q)
	for a := int64(2); ; a++ {
		if g := new(big.Int).Exp(number(a), often, p); g.Cmp(number(1)) > 0 {
			return sample{p: p, q: q, g: g, chain: chain}
		}
	}
}

// climb: steps up to so many bits, each over the prime of the one ahead.
func climb(t *testing.T, random *rand.Rand, bits ...uint) []cert.Step {
	t.Helper()
	p := number(65521)
	var chain []cert.Step
	for _, b := range bits {
		n := primeOver(t, random, b, p)
		chain = append(chain, cert.Step{N: fromBig(n), Base: nat.New(2), Primes: []nat.Nat{fromBig(p)}})
		p = n
	}
	return chain
}

// primeOver: a prime of so many bits that p divides when 1 is taken off.
func primeOver(t *testing.T, random *rand.Rand, bits uint, p *big.Int) *big.Int {
	t.Helper()
	unit := times(p, 2)
	for range 100_000 {
		n := new(big.Int).Add(power(bits-1), new(big.Int).Rand(random, power(bits-1)))
		n.Add(n.Sub(n, new(big.Int).Mod(n, unit)), number(1))
		if n.BitLen() == int(bits) && n.ProbablyPrime(20) {
			return n
		}
	}
	t.Fatalf("no prime of %d bits over %v", bits, p)
	return nil
}

// great: P of 300 bits, Q of 160.
func great(t *testing.T) sample {
	t.Helper()
	chain := climb(t, rand.New(rand.NewSource(10)), 29, 50, 90, 160, 300)
	return over(toBig(chain[4].N), toBig(chain[3].N), chain)
}

// samples: groups of small primes, Q once, often, and more than once in P - 1, and a great one.
func samples(t *testing.T) []sample {
	t.Helper()
	return []sample{example(), over(number(269), number(67), nil), over(number(719), number(359), nil), over(number(17957), number(67), nil), over(number(65497), number(2729), nil), great(t)}
}
