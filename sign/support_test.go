package sign_test

import (
	"crypto/hkdf"
	"crypto/sha256"
	"encoding/binary"
	"math/big"
	"math/rand"
	"reflect"
	"slices"
	"sync"
	"testing"

	"sacristy/api"
	"sacristy/cert"
	"sacristy/group"
	"sacristy/nat"
)

// The library's own numbers, sums and expansions are what ours are held against.

func toBig(a nat.Nat) *big.Int { return new(big.Int).SetBytes(a.Least()) }

// fromBig: nat's FromBytes takes 128 bytes at most, and some numbers here have more.
func fromBig(n *big.Int) nat.Nat {
	a, shift := nat.New(0), nat.New(256)
	for _, b := range n.Bytes() {
		a = a.Mul(shift).Add(nat.New(uint64(b)))
	}
	return a
}

func number(n int64) *big.Int { return big.NewInt(n) }

func power(bits uint) *big.Int { return new(big.Int).Lsh(number(1), bits) }

func plus(n *big.Int, more int64) *big.Int { return new(big.Int).Add(n, number(more)) }

func sum(a, b *big.Int) *big.Int { return new(big.Int).Add(a, b) }

func is(a nat.Nat, want *big.Int) bool { return toBig(a).Cmp(want) == 0 }

func isZeroValue(a nat.Nat) bool { return reflect.DeepEqual(a, nat.Nat{}) }

func lengthOf(n *big.Int) int { return (n.BitLen() + 7) / 8 }

// changed: the bytes, with those at a place changed by a mask.
func changed(b []byte, at int, mask byte) []byte {
	other := slices.Clone(b)
	other[at] ^= mask
	return other
}

// sample: the parameters of a group, and why P and Q are primes.
type sample struct {
	p, q, g *big.Int
	chain   []cert.Step
}

func (s sample) group(t *testing.T) *group.Group {
	t.Helper()
	g, errno := group.New(group.Params{P: fromBig(s.p), Q: fromBig(s.q), G: fromBig(s.g)}, s.chain)
	if g == nil || errno != api.OK {
		t.Fatalf("no group of P %v, Q %v, G %v: error %d", s.p, s.q, s.g, errno)
	}
	return g
}

// exp: a power in the ring of P.
func (s sample) exp(a, e *big.Int) *big.Int { return new(big.Int).Exp(a, e, s.p) }

// member: a number's bytes, as many as P needs.
func (s sample) member(a *big.Int) []byte { return a.FillBytes(make([]byte, lengthOf(s.p))) }

// field: a number's bytes, as many as Q needs.
func (s sample) field(a *big.Int) []byte { return a.FillBytes(make([]byte, lengthOf(s.q))) }

// signature: its bytes.
func (s sample) signature(c, answer *big.Int) []byte {
	return append(s.field(c), s.field(answer)...)
}

// answer: k + c x in the field.
func (s sample) answer(k, c, x *big.Int) *big.Int {
	n := new(big.Int).Mul(c, x)
	return n.Mod(n.Add(n, k), s.q)
}

// challenge: the chapter's words (here and in chapter 9).
func (s sample) challenge(a, y *big.Int, msg []byte) *big.Int {
	var all []byte
	for _, part := range [][]byte{[]byte("sign"), s.member(a), s.member(y), msg} {
		all = binary.LittleEndian.AppendUint64(all, uint64(len(part)))
		all = append(all, part...)
	}
	sum := sha256.Sum256(all)
	return new(big.Int).Mod(new(big.Int).SetBytes(sum[:]), s.q)
}

// expanded: the number, in the field, that a draw is, or 0.
func (s sample) expanded(t *testing.T, x *big.Int, msg []byte) *big.Int {
	t.Helper()
	b, err := hkdf.Expand(sha256.New, s.field(x), string(msg), 64)
	if err != nil {
		t.Fatal(err)
	}
	return new(big.Int).Mod(new(big.Int).SetBytes(b), s.q)
}

// signed: the chapter's words.
func (s sample) signed(t *testing.T, x *big.Int, msg []byte) []byte {
	t.Helper()
	k := s.expanded(t, x, msg)
	if k.Sign() == 0 {
		k = number(1)
	}
	c := s.challenge(s.exp(s.g, k), s.exp(s.g, x), msg)
	return s.signature(c, s.answer(k, c, x))
}

// inPlaceOfA: the base s times, times y's inverse c times.
func (s sample) inPlaceOfA(y, c, answer *big.Int) *big.Int {
	a := s.exp(new(big.Int).ModInverse(y, s.p), c)
	return a.Mod(a.Mul(a, s.exp(s.g, answer)), s.p)
}

func (s sample) isMember(a *big.Int) bool {
	return a.Sign() > 0 && a.Cmp(s.p) < 0 && s.exp(a, s.q).Cmp(number(1)) == 0
}

// verifies: the chapter's words.
func (s sample) verifies(y *big.Int, msg, sig []byte) bool {
	size := lengthOf(s.q)
	if !s.isMember(y) || len(sig) != 2*size {
		return false
	}
	c, answer := new(big.Int).SetBytes(sig[:size]), new(big.Int).SetBytes(sig[size:])
	if c.Cmp(s.q) >= 0 || answer.Cmp(s.q) >= 0 {
		return false
	}
	return s.challenge(s.inPlaceOfA(y, c, answer), y, msg).Cmp(c) == 0
}

// keys: the ends of what may be a key, and others.
func (s sample) keys(random *rand.Rand) []*big.Int {
	list := []*big.Int{number(1), number(2), number(63), plus(s.q, -2), plus(s.q, -1)}
	for range 3 {
		list = append(list, plus(new(big.Int).Rand(random, plus(s.q, -1)), 1))
	}
	return list
}

// noKeys: numbers that are none.
func (s sample) noKeys() []*big.Int {
	return []*big.Int{number(0), s.q, plus(s.q, 1), sum(s.q, s.q), plus(sum(s.q, s.q), 5), s.p, power(1024), power(2000)}
}

// noMembers: y's negative, and others, are those of no key.
func (s sample) noMembers(y *big.Int) []*big.Int {
	return []*big.Int{
		number(0), plus(s.p, -1), new(big.Int).Sub(s.p, y), s.p, plus(s.p, 1), sum(s.p, y), sum(s.p, sum(s.p, y)), power(2000),
		sum(y, new(big.Int).Lsh(s.p, 64)),
	}
}

// messages: of lengths about a sum's blocks, and greater ones.
func messages(random *rand.Rand) [][]byte {
	list := [][]byte{nil, {}, {0}, []byte("text"), []byte("sign")}
	for _, size := range []int{31, 32, 33, 55, 56, 63, 64, 65, 119, 128, 255, 256, 4096, 70_000} {
		msg := make([]byte, size)
		random.Read(msg)
		list = append(list, msg)
	}
	return list
}

// over: a group with Q in P - 1.
func over(p, q *big.Int, chain []cert.Step) sample {
	s := sample{p: p, q: q, chain: chain}
	often := new(big.Int).Div(plus(p, -1), q)
	for a := int64(2); ; a++ {
		if s.g = s.exp(number(a), often); s.g.Cmp(number(1)) > 0 {
			return s
		}
	}
}

// primeOver: a prime of so many bits that p divides when 1 is taken off.
func primeOver(random *rand.Rand, bits uint, p *big.Int) *big.Int {
	unit := new(big.Int).Lsh(p, 1)
	for {
		n := sum(power(bits-1), new(big.Int).Rand(random, power(bits-1)))
		n.Add(n.Sub(n, new(big.Int).Mod(n, unit)), number(1))
		if n.BitLen() == int(bits) && n.ProbablyPrime(20) {
			return n
		}
	}
}

// climbed: a group over primes of so many bits, each of them over the one ahead; P is the last one, Q the last one but one.
func climbed(seed int64, bits ...uint) sample {
	random := rand.New(rand.NewSource(seed))
	p, q := number(65521), number(0)
	var chain []cert.Step
	for _, b := range bits {
		p, q = primeOver(random, b, p), p
		chain = append(chain, cert.Step{N: fromBig(p), Base: nat.New(2), Primes: []nat.Nat{fromBig(q)}})
	}
	return over(p, q, chain)
}

// example: that of chapter 9.
func example() sample { return sample{p: number(607), q: number(101), g: number(64)} }

// littles: groups of small primes: the least Q, Q that fills a byte, that needs a bit more, and as many bytes as P.
func littles() []sample {
	return []sample{
		example(), over(number(269), number(67), nil), over(number(503), number(251), nil),
		over(number(719), number(359), nil), over(number(17957), number(67), nil), over(number(65497), number(2729), nil),
	}
}

// greats: Q of fewer bits than a sum has, of more, and of more than a draw has, with P as great as may be.
var greats = sync.OnceValue(func() []sample {
	return []sample{climbed(11, 29, 53, 100, 190, 350), climbed(12, 29, 53, 100, 190, 300, 420), climbed(13, 29, 53, 100, 190, 350, 600, 1024)}
})

func all() []sample { return append(littles(), greats()...) }
