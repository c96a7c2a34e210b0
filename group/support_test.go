package group_test

import (
	"crypto/hkdf"
	"crypto/sha256"
	"encoding/binary"
	"math/big"
	"math/rand"
	"reflect"
	"slices"
	"testing"

	"sacristy/api"
	"sacristy/cert"
	"sacristy/group"
	"sacristy/nat"
)

func toBig(a nat.Nat) *big.Int { return new(big.Int).SetBytes(a.Least()) }

// fromBig: nat's FromBytes takes 128 bytes at most, and some numbers here have more.
func fromBig(n *big.Int) nat.Nat {
	a, word := nat.New(0), nat.New(1<<32)
	b := n.FillBytes(make([]byte, (n.BitLen()+31)/32*4))
	for part := range slices.Chunk(b, 4) {
		low, _ := nat.FromBytes(part)
		a = a.Mul(word).Add(low)
	}
	return a
}

func power(bits uint) *big.Int { return new(big.Int).Lsh(big.NewInt(1), bits) }

func number(n int64) *big.Int { return big.NewInt(n) }

func plus(n *big.Int, more int64) *big.Int { return new(big.Int).Add(n, number(more)) }

func numbers(values ...uint64) []nat.Nat {
	var list []nat.Nat
	for _, value := range values {
		list = append(list, nat.New(value))
	}
	return list
}

func isZeroValue(a nat.Nat) bool { return reflect.DeepEqual(a, nat.Nat{}) }

func is(a nat.Nat, want *big.Int) bool { return toBig(a).Cmp(want) == 0 }

// sample: the parameters of a group, and why P and Q are primes.
type sample struct {
	p, q, g *big.Int
	seed    []byte
	chain   []cert.Step
}

func (s sample) params() group.Params {
	return group.Params{P: fromBig(s.p), Q: fromBig(s.q), G: fromBig(s.g), Seed: slices.Clone(s.seed)}
}

func (s sample) group(t *testing.T) *group.Group {
	t.Helper()
	g, errno := group.New(s.params(), s.chain)
	if g == nil || errno != api.OK {
		t.Fatalf("no group of P %v, Q %v, G %v: error %d", s.p, s.q, s.g, errno)
	}
	return g
}

// exp: a power in the ring of P.
func (s sample) exp(a, e *big.Int) *big.Int { return new(big.Int).Exp(a, e, s.p) }

// often: how often Q goes into P - 1.
func (s sample) often() *big.Int { return new(big.Int).Div(plus(s.p, -1), s.q) }

// isMember: the chapter's words, over the library's numbers.
func (s sample) isMember(a *big.Int) bool {
	return a.Sign() > 0 && a.Cmp(s.p) < 0 && s.exp(a, s.q).Cmp(number(1)) == 0
}

// second: the chapter's words, over the library's derivation; and which c it was.
func (s sample) second(t *testing.T) (*big.Int, int) {
	t.Helper()
	for c := range 256 {
		b, err := hkdf.Key(sha256.New, s.seed, nil, "h"+string([]byte{byte(c)}), (s.p.BitLen()+7)/8+8)
		if err != nil {
			t.Fatal(err)
		}
		if base := s.exp(new(big.Int).SetBytes(b), s.often()); base.Cmp(number(1)) > 0 {
			return base, c
		}
	}
	t.Fatalf("no second base of the seed %x", s.seed)
	return nil, 0
}

// challenge: the chapter's words, over the library's sum.
func (s sample) challenge(parts ...[]byte) *big.Int {
	var all []byte
	for _, part := range parts {
		all = binary.LittleEndian.AppendUint64(all, uint64(len(part)))
		all = append(all, part...)
	}
	sum := sha256.Sum256(all)
	return new(big.Int).Mod(new(big.Int).SetBytes(sum[:]), s.q)
}

// generator: the first member above 1 that a small number gives.
func generator(p, q *big.Int) *big.Int {
	s := sample{p: p, q: q}
	for a := int64(2); ; a++ {
		if g := s.exp(number(a), s.often()); g.Cmp(number(1)) > 0 {
			return g
		}
	}
}

func little(p, q int64) sample {
	return sample{p: number(p), q: number(q), g: generator(number(p), number(q)), seed: []byte("seed")}
}

// example: that of the chapter.
func example() sample { return sample{p: number(607), q: number(101), g: number(64)} }

// littles: groups of small primes: the least Q, P with just a byte and a bit more, with Q more than once in P - 1, and close to the small primes' end.
func littles() []sample {
	return []sample{
		example(), little(269, 67), little(227, 113), little(263, 131), little(719, 359), little(17957, 67), little(65497, 2729),
	}
}

func isPrime(n *big.Int) bool { return n.ProbablyPrime(20) }

// primeOver: a prime of so many bits that all these numbers divide when 1 is taken off.
func primeOver(t *testing.T, random *rand.Rand, bits uint, divisors ...*big.Int) *big.Int {
	t.Helper()
	unit := number(2)
	for _, d := range divisors {
		unit.Mul(unit, d)
	}
	for range 100_000 {
		n := new(big.Int).Rand(random, power(bits-1))
		n.Add(n, power(bits-1))
		n.Sub(n, new(big.Int).Mod(n, unit)).Add(n, number(1))
		if n.BitLen() == int(bits) && isPrime(n) {
			return n
		}
	}
	t.Fatalf("no prime of %d bits over %v", bits, divisors)
	return nil
}

func stepOver(n *big.Int, primes ...*big.Int) cert.Step {
	s := cert.Step{N: fromBig(n), Base: nat.New(2)}
	for _, p := range primes {
		s.Primes = append(s.Primes, fromBig(p))
	}
	return s
}

// climb: steps up to so many bits, each behind the one ahead.
func climb(t *testing.T, random *rand.Rand, bits ...uint) []cert.Step {
	t.Helper()
	p := number(65521)
	var chain []cert.Step
	for _, b := range bits {
		n := primeOver(t, random, b, p)
		chain = append(chain, stepOver(n, p))
		p = n
	}
	return chain
}

func last(chain []cert.Step) *big.Int { return toBig(chain[len(chain)-1].N) }

// middling: P of 42 bits, Q of 23, above the small primes.
func middling(t *testing.T) sample {
	t.Helper()
	random := rand.New(rand.NewSource(9))
	chain := climb(t, random, 23)
	q := last(chain)
	p := primeOver(t, random, 42, q)
	return sample{p: p, q: q, g: generator(p, q), seed: []byte("middling"), chain: append(chain, stepOver(p, q))}
}

// great: P of as many bits as may be, Q of fewer than a sum has.
func great(t *testing.T) sample {
	t.Helper()
	random := rand.New(rand.NewSource(99))
	chain := climb(t, random, 29, 56, 110, 200)
	q := last(chain)
	other := climb(t, random, 29, 56, 110, 218, 400)
	r := last(other)
	p := primeOver(t, random, 1024, q, r)
	chain = append(append(chain, other...), stepOver(p, q, r))
	return sample{p: p, q: q, g: generator(p, q), seed: slices.Repeat([]byte{0xa5}, api.MaxBytes), chain: chain}
}

// wide: P of a bit more than whole bytes, Q of more bits than a sum has.
func wide(t *testing.T) sample {
	t.Helper()
	random := rand.New(rand.NewSource(999))
	chain := climb(t, random, 29, 56, 110, 218, 400)
	q := last(chain)
	p := primeOver(t, random, 441, q)
	return sample{p: p, q: q, g: generator(p, q), seed: nil, chain: append(chain, stepOver(p, q))}
}

func all(t *testing.T) []sample {
	t.Helper()
	return append(littles(), middling(t), great(t), wide(t))
}

// some: numbers below P and above it, members among them.
func (s sample) some(random *rand.Rand) []*big.Int {
	list := []*big.Int{
		number(0), number(1), number(2), s.q, plus(s.q, 1), plus(s.p, -1), s.p, plus(s.p, 1), new(big.Int).Add(s.p, s.g),
		s.g, s.exp(s.g, number(77)), new(big.Int).Mul(s.p, s.p), new(big.Int).Rand(random, s.p), new(big.Int).Rand(random, power(2000)),
	}
	for range 3 {
		list = append(list, s.exp(s.g, new(big.Int).Rand(random, s.q)))
	}
	return list
}

// exponents: about Q and about P - 1, and others.
func (s sample) exponents(random *rand.Rand) []*big.Int {
	return []*big.Int{
		number(0), number(1), number(2), number(15), number(16), plus(s.q, -1), s.q, plus(s.q, 1), plus(s.p, -1),
		new(big.Int).Rand(random, s.q), new(big.Int).Rand(random, s.p), new(big.Int).Rand(random, power(300)),
	}
}
