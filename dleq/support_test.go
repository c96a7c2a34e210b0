package dleq_test

import (
	"crypto/hkdf"
	"crypto/sha256"
	"encoding/binary"
	"math/big"
	"math/rand"
	"reflect"
	"slices"
	"sync"
	"testing"

	"sacristy/api"
	"sacristy/cert"
	"sacristy/dleq"
	"sacristy/group"
	"sacristy/nat"
)

// The library's own numbers, sums and expansions are what ours are held against.

func toBig(a nat.Nat) *big.Int { return new(big.Int).SetBytes(a.Least()) }

// fromBig: nat's FromBytes takes 128 bytes at most, and some numbers here have more.
func fromBig(n *big.Int) nat.Nat {
	a, shift := nat.New(0), nat.New(256)
	for _, b := range n.Bytes() {
		a = a.Mul(shift).Add(nat.New(uint64(b)))
	}
	return a
}

func number(n int64) *big.Int { return big.NewInt(n) }

func power(bits uint) *big.Int { return new(big.Int).Lsh(number(1), bits) }

func plus(n *big.Int, more int64) *big.Int { return new(big.Int).Add(n, number(more)) }

func sum(a, b *big.Int) *big.Int { return new(big.Int).Add(a, b) }

func is(a nat.Nat, want *big.Int) bool { return toBig(a).Cmp(want) == 0 }

// where: the memory in which a number's words stand.
func where(a nat.Nat) uintptr { return reflect.ValueOf(a).Field(0).Pointer() }

func isZeroValue(a any) bool { return reflect.ValueOf(a).IsZero() }

func lengthOf(n *big.Int) int { return (n.BitLen() + 7) / 8 }

// changed: the bytes, with those at a place changed by a mask.
func changed(b []byte, at int, mask byte) []byte {
	other := slices.Clone(b)
	other[at] ^= mask
	return other
}

// claim: A, B, Y, Z.
type claim [4]*big.Int

func (c claim) ours() dleq.Claim {
	return dleq.Claim{A: fromBig(c[0]), B: fromBig(c[1]), Y: fromBig(c[2]), Z: fromBig(c[3])}
}

func (c claim) is(ours dleq.Claim) bool {
	return is(ours.A, c[0]) && is(ours.B, c[1]) && is(ours.Y, c[2]) && is(ours.Z, c[3])
}

// with: the claim with another number at a place.
func (c claim) with(at int, n *big.Int) claim {
	c[at] = n
	return c
}

// sample: the parameters of a group, and why P and Q are primes.
type sample struct {
	p, q, g *big.Int
	chain   []cert.Step
}

func (s sample) group(t *testing.T) *group.Group {
	t.Helper()
	g, errno := group.New(group.Params{P: fromBig(s.p), Q: fromBig(s.q), G: fromBig(s.g)}, s.chain)
	if g == nil || errno != api.OK {
		t.Fatalf("no group of P %v, Q %v, G %v: error %d", s.p, s.q, s.g, errno)
	}
	return g
}

// exp: a power in the ring of P.
func (s sample) exp(a, e *big.Int) *big.Int { return new(big.Int).Exp(a, e, s.p) }

// within: a number in the field.
func (s sample) within(n *big.Int) *big.Int { return new(big.Int).Mod(n, s.q) }

// member: a number's bytes, as many as P needs.
func (s sample) member(a *big.Int) []byte { return a.FillBytes(make([]byte, lengthOf(s.p))) }

// field: a number's bytes, as many as Q needs.
func (s sample) field(a *big.Int) []byte { return a.FillBytes(make([]byte, lengthOf(s.q))) }

// proof: its bytes.
func (s sample) proof(c, answer *big.Int) []byte { return append(s.field(c), s.field(answer)...) }

// parts: the numbers of a proof's bytes.
func (s sample) parts(proof []byte) (c, answer *big.Int) {
	size := lengthOf(s.q)
	return new(big.Int).SetBytes(proof[:size]), new(big.Int).SetBytes(proof[size:])
}

// answer: k + c x in the field.
func (s sample) answer(k, c, x *big.Int) *big.Int {
	n := new(big.Int).Mul(c, x)
	return n.Mod(n.Add(n, k), s.q)
}

// holding: the claim of two bases with x.
func (s sample) holding(a, b, x *big.Int) claim { return claim{a, b, s.exp(a, x), s.exp(b, x)} }

// challenge: the chapter's words (here and in chapter 9).
func (s sample) challenge(c claim, u, v *big.Int, side []byte) *big.Int {
	list := [][]byte{[]byte("dleq")}
	for _, a := range append(c[:], u, v) {
		list = append(list, s.member(a))
	}
	var all []byte
	for _, part := range append(list, side) {
		all = binary.LittleEndian.AppendUint64(all, uint64(len(part)))
		all = append(all, part...)
	}
	sum := sha256.Sum256(all)
	return s.within(new(big.Int).SetBytes(sum[:]))
}

// expanded: the number, in the field, that a draw is, or 0.
func (s sample) expanded(t *testing.T, a, b, x *big.Int, side []byte) *big.Int {
	t.Helper()
	info := slices.Concat([]byte("dleq"), s.member(a), s.member(b), side)
	bytes, err := hkdf.Expand(sha256.New, s.field(x), string(info), 64)
	if err != nil {
		t.Fatal(err)
	}
	return s.within(new(big.Int).SetBytes(bytes))
}

// proved: the chapter's words.
func (s sample) proved(t *testing.T, a, b, x *big.Int, side []byte) (claim, []byte) {
	t.Helper()
	k := s.expanded(t, a, b, x, side)
	if k.Sign() == 0 {
		k = number(1)
	}
	claim := s.holding(a, b, x)
	c := s.challenge(claim, s.exp(a, k), s.exp(b, k), side)
	return claim, s.proof(c, s.answer(k, c, x))
}

// drawn: a base s times, and a power's inverse c times.
func (s sample) drawn(base, power, c, answer *big.Int) *big.Int {
	a := s.exp(new(big.Int).ModInverse(power, s.p), c)
	return a.Mod(a.Mul(a, s.exp(base, answer)), s.p)
}

// wants: the challenge that an answer's c must be.
func (s sample) wants(c claim, side []byte, challenge, answer *big.Int) *big.Int {
	return s.challenge(c, s.drawn(c[0], c[2], challenge, answer), s.drawn(c[1], c[3], challenge, answer), side)
}

func (s sample) isMember(a *big.Int) bool {
	return a.Sign() > 0 && a.Cmp(s.p) < 0 && s.exp(a, s.q).Cmp(number(1)) == 0
}

// verifies: the chapter's words.
func (s sample) verifies(c claim, side, proof []byte) bool {
	for _, a := range c {
		if !s.isMember(a) {
			return false
		}
	}
	if len(proof) != 2*lengthOf(s.q) {
		return false
	}
	challenge, answer := s.parts(proof)
	return challenge.Cmp(s.q) < 0 && answer.Cmp(s.q) < 0 && s.wants(c, side, challenge, answer).Cmp(challenge) == 0
}

// bases: some pairs, with 1, with the base twice and with the second base among them.
func (s sample) bases(t *testing.T, random *rand.Rand) [][2]*big.Int {
	h := toBig(s.group(t).H())
	some := func() *big.Int { return s.exp(s.g, new(big.Int).Rand(random, s.q)) }
	return [][2]*big.Int{
		{s.g, h}, {h, s.g}, {s.g, s.g}, {number(1), s.g}, {h, number(1)}, {number(1), number(1)}, {some(), some()}, {s.g, some()},
	}
}

// exponents: the ends of the field, and others.
func (s sample) exponents(random *rand.Rand) []*big.Int {
	list := []*big.Int{number(0), number(1), number(2), number(63), plus(s.q, -2), plus(s.q, -1)}
	for range 3 {
		list = append(list, new(big.Int).Rand(random, s.q))
	}
	return list
}

// noExponents: numbers that aren't below Q.
func (s sample) noExponents() []*big.Int {
	return []*big.Int{s.q, plus(s.q, 1), sum(s.q, s.q), plus(sum(s.q, s.q), 5), s.p, power(1024), power(2000)}
}

// noMembers: numbers that are none, with those among them that go round to the member a, and its negative.
func (s sample) noMembers(a *big.Int) []*big.Int {
	return []*big.Int{
		number(0), plus(s.p, -1), new(big.Int).Sub(s.p, a), s.p, plus(s.p, 1), sum(s.p, a), sum(s.p, sum(s.p, a)), power(2000),
		sum(a, new(big.Int).Lsh(s.p, 64)),
	}
}

// sides: of lengths about a sum's blocks, and greater ones.
func sides(random *rand.Rand) [][]byte {
	list := [][]byte{nil, {}, {0}, []byte("side"), []byte("dleq")}
	for _, size := range []int{31, 32, 33, 55, 56, 63, 64, 65, 119, 128, 255, 256, 4096, 70_000} {
		side := make([]byte, size)
		random.Read(side)
		list = append(list, side)
	}
	return list
}

// over: a group with Q in P - 1.
func over(p, q *big.Int, chain []cert.Step) sample {
	s := sample{p: p, q: q, chain: chain}
	often := new(big.Int).Div(plus(p, -1), q)
	for a := int64(2); ; a++ {
		if s.g = s.exp(number(a), often); s.g.Cmp(number(1)) > 0 {
			return s
		}
	}
}

// primeOver: a prime of so many bits that p divides when 1 is taken off.
func primeOver(random *rand.Rand, bits uint, p *big.Int) *big.Int {
	unit := new(big.Int).Lsh(p, 1)
	for {
		n := sum(power(bits-1), new(big.Int).Rand(random, power(bits-1)))
		n.Add(n.Sub(n, new(big.Int).Mod(n, unit)), number(1))
		if n.BitLen() == int(bits) && n.ProbablyPrime(20) {
			return n
		}
	}
}

// climbed: a group over primes of so many bits, each of them over the one ahead; P is the last one, Q the last one but one.
func climbed(seed int64, bits ...uint) sample {
	random := rand.New(rand.NewSource(seed))
	p, q := number(65521), number(0)
	var chain []cert.Step
	for _, b := range bits {
		p, q = primeOver(random, b, p), p
		chain = append(chain, cert.Step{N: fromBig(p), Base: nat.New(2), Primes: []nat.Nat{fromBig(q)}})
	}
	return over(p, q, chain)
}

// example: that of chapter 9.
func example() sample { return sample{p: number(607), q: number(101), g: number(64)} }

// littles: groups of small primes: the least Q, Q that fills a byte, that needs a bit more, and as many bytes as P.
func littles() []sample {
	return []sample{
		example(), over(number(269), number(67), nil), over(number(503), number(251), nil),
		over(number(719), number(359), nil), over(number(17957), number(67), nil), over(number(65497), number(2729), nil),
	}
}

// greats: Q of fewer bits than a sum has, of more, and of more than a draw has, with P as great as may be.
var greats = sync.OnceValue(func() []sample {
	return []sample{climbed(21, 29, 53, 100, 190, 350), climbed(22, 29, 53, 100, 190, 300, 420), climbed(23, 29, 53, 100, 190, 350, 600, 1024)}
})

func all() []sample { return append(littles(), greats()...) }
