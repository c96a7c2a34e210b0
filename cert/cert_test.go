package cert_test

import (
	"math/big"
	"math/rand"
	"reflect"
	"slices"
	"sync"
	"testing"

	"sacristy/api"
	"sacristy/cert"
	"sacristy/nat"
)

func toBig(a nat.Nat) *big.Int { return new(big.Int).SetBytes(a.Least()) }

// fromBig: nat's FromBytes takes 128 bytes at most, and some numbers here have more.
func fromBig(n *big.Int) nat.Nat {
	a, word := nat.New(0), nat.New(1<<32)
	b := n.FillBytes(make([]byte, (n.BitLen()+31)/32*4))
	for part := range slices.Chunk(b, 4) {
		low, _ := nat.FromBytes(part)
		a = a.Mul(word).Add(low)
	}
	return a
}

func power(n uint) *big.Int { return new(big.Int).Lsh(big.NewInt(1), n) }

func numbers(values ...uint64) []nat.Nat {
	var list []nat.Nat
	for _, value := range values {
		list = append(list, nat.New(value))
	}
	return list
}

func step(n, base uint64, primes ...uint64) cert.Step {
	return cert.Step{N: nat.New(n), Base: nat.New(base), Primes: numbers(primes...)}
}

// example: the chapter's step, and one that leans on it.
func example() []cert.Step {
	return []cert.Step{step(166667, 2, 2, 167, 499), step(1000003, 2, 166667)}
}

// broken: what no chain may have, for the base's power is none of 1.
func broken() cert.Step { return step(166667, 0, 2, 167, 499) }

// isPrime is right below 2^64, and above it errs on no number of this look.
func isPrime(n *big.Int) bool { return n.ProbablyPrime(20) }

// divisors: the primes that divide a small number.
func divisors(n uint64) []uint64 {
	var found []uint64
	for p := uint64(2); p <= n; p++ {
		if n%p == 0 {
			found = append(found, p)
		}
		for n%p == 0 {
			n /= p
		}
	}
	return found
}

// subsets: all choices of a list's numbers, none of them and all of them too.
func subsets(list []uint64) [][]uint64 {
	all := [][]uint64{nil}
	for _, n := range list {
		for _, some := range all {
			all = append(all, append(slices.Clone(some), n))
		}
	}
	return all
}

// wantHolds: the chapter's words, one behind the other, over the library's numbers.
func wantHolds(s cert.Step, behind []nat.Nat) bool {
	one := big.NewInt(1)
	n := toBig(s.N)
	if n.Cmp(big.NewInt(2)) < 0 || len(s.Primes) < 1 || len(s.Primes) > 32 {
		return false
	}
	known := make(map[string]bool)
	for _, b := range behind {
		known[toBig(b).String()] = true
	}
	less := new(big.Int).Sub(n, one)
	product := big.NewInt(1)
	seen := make(map[string]bool)
	for _, prime := range s.Primes {
		p := toBig(prime)
		small := p.BitLen() <= 16 && p.ProbablyPrime(0)
		if seen[p.String()] || p.Cmp(one) <= 0 || !small && !known[p.String()] {
			return false
		}
		seen[p.String()] = true
		part := new(big.Int).Set(p)
		for divides(part, less) {
			part.Mul(part, p)
		}
		product.Mul(product, part.Div(part, p))
		if !divides(p, less) {
			return false
		}
	}
	if product.Mul(product, product).Cmp(n) <= 0 {
		return false
	}
	return wantPowers(n, less, s)
}

func divides(p, n *big.Int) bool { return new(big.Int).Mod(n, p).Sign() == 0 }

func wantPowers(n, less *big.Int, s cert.Step) bool {
	one, base := big.NewInt(1), toBig(s.Base)
	if new(big.Int).Exp(base, less, n).Cmp(one) != 0 {
		return false
	}
	for _, p := range s.Primes {
		root := new(big.Int).Exp(base, new(big.Int).Div(less, toBig(p)), n)
		if new(big.Int).GCD(nil, nil, root.Add(root, less), n).Cmp(one) != 0 {
			return false
		}
	}
	return true
}

func checkHolds(t *testing.T, s cert.Step, behind []nat.Nat, want bool) {
	t.Helper()
	if got := cert.Holds(s, behind); got != want {
		t.Errorf("%v with the base %v and %v behind %v holds: %v", toBig(s.N), toBig(s.Base), bigs(s.Primes), bigs(behind), got)
	}
	if got := wantHolds(s, behind); got != want {
		t.Errorf("the test's own, of %v with the base %v and %v behind %v: %v", toBig(s.N), toBig(s.Base), bigs(s.Primes), bigs(behind), got)
	}
}

func bigs(list []nat.Nat) []*big.Int {
	var all []*big.Int
	for _, n := range list {
		all = append(all, toBig(n))
	}
	return all
}

func checkChain(t *testing.T, what string, chain []cert.Step, want api.Errno) {
	t.Helper()
	if got := cert.Check(chain); got != want {
		t.Errorf("%s: error %d, not %d", what, got, want)
	}
}

func checkPrime(t *testing.T, what string, n nat.Nat, chain []cert.Step, want bool) {
	t.Helper()
	if got := cert.Prime(n, chain); got != want {
		t.Errorf("%s: is %v a prime: %v", what, toBig(n), got)
	}
}

// grown: a step of a prime that needs so many bits, behind another one; p has more than half as many.
func grown(t *testing.T, random *rand.Rand, p *big.Int, bits uint) cert.Step {
	t.Helper()
	twice := new(big.Int).Lsh(p, 1)
	for range 100_000 {
		n := new(big.Int).Rand(random, power(bits-1))
		n.Add(n, power(bits-1))
		n.Sub(n, new(big.Int).Mod(n, twice)).Add(n, big.NewInt(1))
		if n.BitLen() == int(bits) && isPrime(n) {
			return over(n, p)
		}
	}
	t.Fatalf("no prime of %d bits behind %v", bits, p)
	return cert.Step{}
}

// next: a step of the first prime that p, with 2, divides when 1 is taken off.
func next(p *big.Int) cert.Step {
	twice := new(big.Int).Lsh(p, 1)
	n := new(big.Int).Add(twice, big.NewInt(1))
	for !isPrime(n) {
		n.Add(n, twice)
	}
	return over(n, p)
}

func over(n, p *big.Int) cert.Step {
	return cert.Step{N: fromBig(n), Base: nat.New(2), Primes: []nat.Nat{fromBig(p)}}
}

// tower: steps up to 1024 bits, each of which leans on the one ahead.
func tower(t *testing.T) []cert.Step {
	t.Helper()
	random := rand.New(rand.NewSource(8))
	var chain []cert.Step
	p := big.NewInt(65521)
	for _, bits := range []uint{29, 56, 110, 218, 434, 866, 1024} {
		chain = append(chain, grown(t, random, p, bits))
		p = toBig(chain[len(chain)-1].N)
	}
	return chain
}

// row: as many steps as asked for, each of which leans on the one ahead.
func row(count int) []cert.Step {
	var chain []cert.Step
	p := big.NewInt(65521)
	for range count {
		chain = append(chain, next(p))
		p = toBig(chain[len(chain)-1].N)
	}
	return chain
}

// P8.1: Small

func TestSmall(t *testing.T) {
	for n := range uint64(1<<17 + 10) {
		want := n < 1<<16 && big.NewInt(int64(n)).ProbablyPrime(0)
		if got := cert.Small(nat.New(n)); got != want {
			t.Errorf("Small(%d): %v", n, got)
		}
	}
}

// Primes all of them, or ends of words, with small primes in their lowest bits.
func TestGreatOnesAreNotSmall(t *testing.T) {
	for _, n := range []*big.Int{
		big.NewInt(65537), big.NewInt(1<<31 - 1), new(big.Int).Sub(power(61), big.NewInt(1)), new(big.Int).Sub(power(127), big.NewInt(1)),
	} {
		if cert.Small(fromBig(n)) {
			t.Errorf("Small(%v)", n)
		}
	}
	for _, bits := range []uint{16, 17, 31, 32, 33, 48, 63, 64, 65, 96, 128, 1023, 1024, 4096} {
		for _, p := range []int64{2, 3, 5, 7, 65521} {
			n := new(big.Int).Add(power(bits), big.NewInt(p))
			if cert.Small(fromBig(n)) {
				t.Errorf("Small(2^%d + %d)", bits, p)
			}
		}
	}
}

// P8.1: Holds

func TestExample(t *testing.T) {
	checkHolds(t, step(166667, 2, 2, 167, 499), nil, true)
	checkHolds(t, step(1000003, 2, 166667), numbers(166667), true)
}

func TestEachCondition(t *testing.T) {
	for _, c := range []struct {
		why    string
		s      cert.Step
		behind []nat.Nat
		want   bool
	}{
		{"3 is the least that can", step(3, 2, 2), nil, true},
		{"nothing divides 1", step(2, 1, 2), nil, false},
		{"below 2", step(1, 1, 2), nil, false},
		{"below 2", step(0, 1, 2), nil, false},
		{"no primes", step(7, 3), nil, false},
		{"all primes", step(7, 3, 2, 3), nil, true},
		{"in another order", step(7, 3, 3, 2), nil, true},
		{"one twice", step(7, 3, 3, 3), nil, false},
		{"one twice, another one between", step(7, 3, 3, 2, 3), nil, false},
		{"one is 1", step(7, 3, 3, 1), numbers(0, 1), false},
		{"one is 0", step(7, 3, 3, 0), numbers(0, 1), false},
		{"one alone is 1", step(7, 3, 1), numbers(1), false},
		{"6 is no prime", step(7, 3, 6), nil, false},
		{"but it may stand ahead", step(7, 3, 6), numbers(5, 6), true},
		{"65537 is no small prime", step(14*65537+1, 2, 65537), nil, false},
		{"others ahead", step(14*65537+1, 2, 65537), numbers(65521, 65539), false},
		{"65537 ahead, first", step(14*65537+1, 2, 65537), numbers(65537, 3), true},
		{"65537 ahead, last", step(14*65537+1, 2, 65537), numbers(3, 65537), true},
		{"65521 is small", step(10*65521+1, 2, 65521), nil, true},
		{"5 doesn't divide 6", step(7, 3, 2, 3, 5), nil, false},
		{"5 doesn't divide 6, though it stands ahead", step(7, 3, 5, 2, 3), numbers(5), false},
		{"a greater one doesn't divide", step(7, 3, 2, 3, 11), nil, false},
		{"N itself doesn't divide", step(7, 3, 2, 3, 7), nil, false},
	} {
		t.Log(c.why)
		checkHolds(t, c.s, c.behind, c.want)
	}
}

func TestProductSquared(t *testing.T) {
	for _, c := range []struct {
		why  string
		s    cert.Step
		want bool
	}{
		{"2 times 2 isn't above 7", step(7, 3, 2), false},
		{"3 times 3 is", step(7, 3, 3), true},
		{"3 times 3 isn't above 13", step(13, 2, 3), false},
		{"with its power 2 is enough in 12", step(13, 2, 2), true},
		{"16 is one power", step(17, 3, 2), true},
		{"81 is one power", step(163, 2, 3), true},
		{"81 times 81 is above 80 times 81 and 1", step(6481, 7, 3), true},
		{"27 times 27 isn't above 27 times 28 and 1", step(757, 2, 3), false},
		{"but 28 times 28 is", step(757, 2, 2, 7), true},
		{"8 times 8 isn't above 73", step(73, 5, 2), false},
		{"9 times 9 is", step(73, 5, 3), true},
	} {
		t.Log(c.why)
		if toBig(c.s.N).ProbablyPrime(0) {
			checkHolds(t, c.s, nil, c.want)
		} else {
			t.Errorf("%v is no prime", toBig(c.s.N))
		}
	}
}

// N = F * k + 1 with k just below F, and just above it, for great numbers.
func TestProductSquaredOfGreatOnes(t *testing.T) {
	found := [2]int{}
	for p := int64(65521); p > 64000 && found[0]*found[1] == 0; p-- {
		if !big.NewInt(p).ProbablyPrime(0) {
			continue
		}
		for k, want := range map[int64]bool{p - 1: true, p + 1: false} {
			n := p*k + 1
			if !big.NewInt(n).ProbablyPrime(0) {
				continue
			}
			checkHolds(t, step(uint64(n), 2, uint64(p)), nil, want)
			found[(k-p+1)/2]++
		}
	}
	if found[0]*found[1] == 0 {
		t.Errorf("%v primes looked at", found)
	}
}

func TestBase(t *testing.T) {
	for _, c := range []struct {
		why  string
		s    cert.Step
		want bool
	}{
		{"0", step(7, 0, 3), false},
		{"0, once round", step(7, 7, 3), false},
		{"1 leaves nothing", step(7, 1, 3), false},
		{"3, once round", step(7, 10, 2, 3), true},
		{"6 is 1 after 2 already", step(7, 6, 3), false},
		{"2 is 1 after 3 already", step(7, 2, 2, 3), false},
		{"2 is 1 after 3 already", step(7, 2, 3, 2), false},
		{"2 is 1 after 3, but not after 2", step(7, 2, 3), true},
		{"15 is 3 times 5", step(15, 2, 2, 7), false},
		{"15 is 3 times 5, though 4 times 4 leaves 1", step(15, 4, 2, 7), false},
		{"the power is 1 in 9, but 8 is no end for 4", step(9, 8, 2), false},
		{"5's power is 1 in 561, what is beyond 1 isn't 0, but 3 and 11 divide it", step(561, 5, 2, 5), false},
	} {
		t.Log(c.why)
		checkHolds(t, c.s, nil, c.want)
	}
	// What is said of 561 above.
	for _, often := range []int64{280, 112} {
		root := new(big.Int).Exp(big.NewInt(5), big.NewInt(often), big.NewInt(561))
		if root.Cmp(big.NewInt(1)) == 0 {
			t.Errorf("5, %d times, is 1", often)
		}
	}
}

// primorial: the product of the first primes, and they.
func primorial(count int) (*big.Int, []uint64) {
	product := big.NewInt(1)
	var primes []uint64
	for p := uint64(2); len(primes) < count; p++ {
		if big.NewInt(int64(p)).ProbablyPrime(0) {
			primes = append(primes, p)
			product.Mul(product, new(big.Int).SetUint64(p))
		}
	}
	return product, primes
}

// smooth: a step of a prime with so many primes that are all the first ones.
func smooth(t *testing.T, count int) cert.Step {
	t.Helper()
	product, primes := primorial(count)
	n := big.NewInt(1)
	for n.Add(n, product); !isPrime(n); n.Add(n, product) {
	}
	for base := uint64(2); base < 1000; base++ {
		s := cert.Step{N: fromBig(n), Base: nat.New(base), Primes: numbers(primes...)}
		if wantPowers(n, new(big.Int).Sub(n, big.NewInt(1)), s) {
			return s
		}
	}
	t.Fatal("no base")
	return cert.Step{}
}

func TestHowManyPrimes(t *testing.T) {
	checkHolds(t, smooth(t, api.MaxPrimes), nil, true)
	s := smooth(t, api.MaxPrimes+1)
	checkHolds(t, s, nil, false)
	for i := range s.Primes {
		// Without any one of them there are as many as may be.
		fewer := s
		fewer.Primes = slices.Delete(slices.Clone(s.Primes), i, i+1)
		checkHolds(t, fewer, nil, true)
	}
}

// Each of many primes is looked at: one of them has no right power, or is there twice, or is none.
func TestEachOfManyPrimes(t *testing.T) {
	s := smooth(t, 20)
	less := new(big.Int).Sub(toBig(s.N), big.NewInt(1))
	for i, p := range s.Primes {
		weak := s
		weak.Base = fromBig(new(big.Int).Exp(toBig(s.Base), toBig(p), toBig(s.N)))
		checkHolds(t, weak, nil, false)
		twice := s
		twice.Primes = append(slices.Clone(s.Primes), p)
		checkHolds(t, twice, nil, false)
		for _, other := range []uint64{0, 1, 4, 6, 9, 15, 73, 79} {
			wrong := s
			wrong.Primes = slices.Clone(s.Primes)
			wrong.Primes[i] = nat.New(other)
			checkHolds(t, wrong, numbers(0, 1), false)
		}
	}
	if divides(big.NewInt(73), less) || divides(big.NewInt(79), less) {
		t.Error("73 or 79 does divide")
	}
}

// Every small number, base and choice of primes.
func TestAllSmallSteps(t *testing.T) {
	behind := numbers(0, 1, 4, 9)
	for n := range uint64(60) {
		candidates := []uint64{1, 4, 6}
		if n > 1 {
			candidates = append(candidates, divisors(n-1)...)
		}
		for _, primes := range subsets(candidates) {
			for base := range n + 2 {
				s := step(n, base, primes...)
				checkHolds(t, s, nil, wantHolds(s, nil))
				checkHolds(t, s, behind, wantHolds(s, behind))
			}
		}
	}
}

// A prime has a base, and what isn't one has none.
func TestEachPrimeHasABase(t *testing.T) {
	for n := uint64(3); n < 500; n++ {
		primes := divisors(n - 1)
		found := false
		for base := range n {
			found = found || cert.Holds(step(n, base, primes...), nil)
		}
		if want := big.NewInt(int64(n)).ProbablyPrime(0); found != want {
			t.Errorf("%d: a base found: %v", n, found)
		}
	}
}

func TestGreatSteps(t *testing.T) {
	var behind []nat.Nat
	for _, s := range tower(t) {
		checkHolds(t, s, append(behind, nat.New(4)), true)
		if len(behind) > 0 {
			checkHolds(t, s, behind[:len(behind)-1], false)
		}
		// Not the next one, that p divides too.
		above := s
		above.N = s.N.Add(s.Primes[0]).Add(s.Primes[0])
		checkHolds(t, above, behind, wantHolds(above, behind))
		behind = append(behind, s.N)
	}
}

// Holds names no bound for a number.
func TestHoldsBeyondAChain(t *testing.T) {
	chain := tower(t)
	last := chain[len(chain)-1]
	long := grown(t, rand.New(rand.NewSource(9)), toBig(last.N), 1100)
	checkHolds(t, long, []nat.Nat{last.N}, true)
	checkChain(t, "a number of 1100 bits", append(chain, long), api.ErrLong)
	checkPrime(t, "1100 bits", long.N, append(chain, long), false)
}

// P8.1: Check

func TestCheck(t *testing.T) {
	checkChain(t, "nil", nil, api.OK)
	checkChain(t, "empty", []cert.Step{}, api.OK)
	checkChain(t, "the example", example(), api.OK)
	checkChain(t, "its first step", example()[:1], api.OK)
	checkChain(t, "its second step alone", example()[1:], api.ErrProof)
	checkChain(t, "the other way round", []cert.Step{example()[1], example()[0]}, api.ErrProof)
	checkChain(t, "a step of nothing", make([]cert.Step, 1), api.ErrProof)
	checkChain(t, "one step twice", append(example(), example()...), api.OK)
	checkChain(t, "a step that leans on itself", []cert.Step{step(917519, 2, 917519)}, api.ErrProof)
	checkChain(t, "a step that leans on one further ahead", append(example(), step(5000011, 2, 166667)), api.OK)
}

func TestABrokenStepAnywhere(t *testing.T) {
	for at := range 5 {
		chain := append(example(), append(example(), example()[0])...)
		chain[at] = broken()
		checkChain(t, "broken", chain, api.ErrProof)
		checkPrime(t, "broken", nat.New(166667), chain, false)
		checkPrime(t, "broken", nat.New(1000003), chain, false)
	}
}

func TestHowManySteps(t *testing.T) {
	chain := row(api.MaxSteps + 1)
	checkChain(t, "64 steps", chain[:api.MaxSteps], api.OK)
	checkChain(t, "65 steps", chain, api.ErrLong)
	for i, s := range chain[:api.MaxSteps] {
		checkPrime(t, "64 steps", s.N, chain[:i+1], true)
		checkPrime(t, "steps ahead of it", s.N, chain[:i], false)
	}
	checkPrime(t, "65 steps", chain[0].N, chain, false)
	checkPrime(t, "65 steps", nat.New(65521), chain, true)
	for i := range chain {
		missing := slices.Delete(slices.Clone(chain), i, i+1)
		want := api.ErrProof
		if i == api.MaxSteps {
			want = api.OK
		}
		checkChain(t, "one step of 65 missing", missing, want)
	}
	same := slices.Repeat(example()[:1], api.MaxSteps+1)
	checkChain(t, "64 times one step", same[1:], api.OK)
	checkChain(t, "65 times one step", same, api.ErrLong)
	checkChain(t, "65 broken steps", slices.Repeat([]cert.Step{broken()}, api.MaxSteps+1), api.ErrLong)
	checkChain(t, "64 broken steps", slices.Repeat([]cert.Step{broken()}, api.MaxSteps), api.ErrProof)
}

func TestHowLongNumbers(t *testing.T) {
	chain := tower(t)
	checkChain(t, "up to 1024 bits", chain, api.OK)
	greatest, least := new(big.Int).Sub(power(1024), big.NewInt(1)), power(1024)
	for at := range chain {
		for part := range 4 {
			for _, n := range []*big.Int{least, power(1031), power(5000)} {
				changed := slices.Clone(chain)
				change(&changed[at], part, fromBig(n))
				checkChain(t, "a long number", changed, api.ErrLong)
				checkChain(t, "a long number, and a broken step", append(changed, broken()), api.ErrLong)
				checkChain(t, "a broken step, and a long number", append([]cert.Step{broken()}, changed...), api.ErrLong)
			}
			changed := slices.Clone(chain)
			change(&changed[at], part, fromBig(greatest))
			want := api.ErrProof
			if part == 1 {
				// For a base any number will do, if its powers do.
				want = api.OK
			}
			checkChain(t, "the greatest number", changed, want)
		}
	}
}

// change: the step's N, its base, its only prime, or one more.
func change(s *cert.Step, part int, n nat.Nat) {
	switch part {
	case 0:
		s.N = n
	case 1:
		s.Base = n
	case 2:
		s.Primes = []nat.Nat{n}
	case 3:
		s.Primes = []nat.Nat{s.Primes[0], n}
	}
}

// A base may be as long as a number may be, whatever N it goes round in.
func TestHowLongABase(t *testing.T) {
	for _, c := range []struct {
		bits uint
		want api.Errno
	}{{1000, api.OK}, {1024, api.OK}, {1025, api.ErrLong}, {1032, api.ErrLong}} {
		chain := example()
		base := power(c.bits)
		base.Sub(base, big.NewInt(1))
		base.Sub(base, new(big.Int).Mod(base, toBig(chain[0].N)))
		base.Sub(base, toBig(chain[0].N)).Add(base, big.NewInt(2))
		if base.BitLen() != int(c.bits) {
			t.Fatalf("%d bits", base.BitLen())
		}
		chain[0].Base = fromBig(base)
		checkHolds(t, chain[0], nil, true)
		checkChain(t, "a long base", chain, c.want)
		checkPrime(t, "a long base", chain[0].N, chain, c.want == api.OK)
	}
}

// Too many primes are no long number.
func TestManyPrimesInACheck(t *testing.T) {
	checkChain(t, "32 primes", []cert.Step{smooth(t, 32)}, api.OK)
	s := smooth(t, 33)
	checkChain(t, "33 primes", []cert.Step{s}, api.ErrProof)
	s.Primes = append(s.Primes, fromBig(power(1024)))
	checkChain(t, "34 primes, one of them long", []cert.Step{s}, api.ErrLong)
}

// P8.1: Prime

func TestPrime(t *testing.T) {
	bad := []cert.Step{broken()}
	for _, chain := range [][]cert.Step{nil, {}, example(), bad, slices.Repeat(bad, 65)} {
		for n := range uint64(1 << 10) {
			checkPrime(t, "a small one", nat.New(n), chain, cert.Small(nat.New(n)))
		}
		checkPrime(t, "a small one", nat.New(65521), chain, true)
		checkPrime(t, "one that no step has", nat.New(65537), chain, false)
		checkPrime(t, "no prime", nat.New(65536), chain, false)
	}
	checkPrime(t, "the first step", nat.New(166667), example(), true)
	checkPrime(t, "the second step", nat.New(1000003), example(), true)
	checkPrime(t, "no chain", nat.New(166667), nil, false)
	checkPrime(t, "one step too few", nat.New(1000003), example()[:1], false)
	checkPrime(t, "a broken chain", nat.New(1000003), example()[1:], false)
	checkPrime(t, "right, and broken behind", nat.New(166667), append(example(), broken()), false)
	checkPrime(t, "one word more", fromBig(new(big.Int).Add(power(32), big.NewInt(166667))), example(), false)
	// A base is no step's number.
	based := []cert.Step{step(166667, 2+3*166667, 2, 167, 499)}
	checkChain(t, "a base above N", based, api.OK)
	checkPrime(t, "a base", based[0].Base, based, false)
}

func TestPrimesOfATower(t *testing.T) {
	chain := tower(t)
	for i, s := range chain {
		checkPrime(t, "a step of the tower", s.N, chain, true)
		checkPrime(t, "a step of the tower", s.N, chain[:i+1], true)
		checkPrime(t, "a number beside", s.N.Add(nat.New(1)), chain, false)
		checkPrime(t, "a step without those ahead", s.N, chain[i:], i == 0)
	}
}

// P8.2

// What looks like a prime to some bases, or to all, with all choices of primes and many bases.
func TestNoOtherNumberIsLetPass(t *testing.T) {
	for _, n := range []uint64{4, 6, 8, 9, 15, 25, 27, 49, 91, 121, 341, 561, 645, 1105, 1387, 1729, 2047, 2465, 2821, 3277, 6601, 8911} {
		for _, primes := range subsets(divisors(n - 1)) {
			for base := uint64(0); base <= n; base += 1 + n/700 {
				if s := step(n, base, primes...); cert.Holds(s, nil) {
					t.Errorf("%d with the base %d and %v holds", n, base, primes)
				}
			}
		}
	}
	// Above 2^16, where Prime asks for the chain.
	for _, n := range []uint64{65537 * 65537, 3215031751, 4759123141, 1122004669633, 341550071728321} {
		for base := range uint64(200) {
			chain := []cert.Step{step(n, base, divisors(n-1)...)}
			checkPrime(t, "two primes' product", nat.New(n), chain, false)
		}
	}
}

// A chain of steps of any look: what passes are primes.
func TestWhatPassesIsAPrime(t *testing.T) {
	random := rand.New(rand.NewSource(88))
	passed := 0
	for range 20_000 {
		first := 1<<16 + 1 + 2*uint64(random.Intn(1<<15))
		second := first*2*uint64(1+random.Intn(40)) + 1
		chain := []cert.Step{step(first, uint64(2+random.Intn(3)), divisors(first-1)...), step(second, 2, first)}
		for i, s := range chain {
			if cert.Prime(s.N, chain[:i+1]) {
				passed++
				if !toBig(s.N).ProbablyPrime(0) {
					t.Errorf("%v passes", toBig(s.N))
				}
			}
		}
	}
	if passed < 100 {
		t.Errorf("only %d passed", passed)
	}
}

// roomy: the steps with spare room in all lists, and something in it.
func roomy(chain []cert.Step) []cert.Step {
	wide := append(slices.Clone(chain), broken(), broken())
	for i := range wide {
		primes := append(slices.Clone(wide[i].Primes), numbers(11, 13)...)
		wide[i].Primes = primes[:len(primes)-2]
	}
	return wide[:len(chain)]
}

func TestNothingChanges(t *testing.T) {
	for _, chain := range [][]cert.Step{example(), tower(t)[:5], {broken()}, example()[1:], {smooth(t, 33)}, slices.Repeat(example(), 40)} {
		given, kept := roomy(chain), roomy(chain)
		behind := append(numbers(166667, 3), numbers(5, 7)...)[:2]
		cert.Check(given)
		for _, s := range given {
			cert.Holds(s, behind)
			cert.Prime(s.N, given)
			cert.Small(s.N)
		}
		given, kept = given[:len(chain)+2], kept[:len(chain)+2]
		for i, s := range given {
			if !reflect.DeepEqual(s, kept[i]) || !reflect.DeepEqual(s.Primes[:len(s.Primes)+2], kept[i].Primes[:len(kept[i].Primes)+2]) {
				t.Errorf("step %d of %d has changed", i, len(chain))
			}
		}
		if !reflect.DeepEqual(behind[:4], numbers(166667, 3, 5, 7)) {
			t.Error("what is behind has changed")
		}
	}
}

// An answer hangs on what is handed in now, not on what passed before.
func TestNothingIsKept(t *testing.T) {
	chain := example()
	for range 3 {
		checkPrime(t, "whole", nat.New(1000003), chain, true)
		chain[0].Primes[1] = nat.New(499)
		checkPrime(t, "a prime changed", nat.New(1000003), chain, false)
		checkChain(t, "a prime changed", chain, api.ErrProof)
		chain[0].Primes[1] = nat.New(167)
		checkPrime(t, "as it was", nat.New(1000003), chain, true)
		checkPrime(t, "no chain", nat.New(1000003), nil, false)
	}
}

func TestCallsApart(t *testing.T) {
	chain, bad := tower(t)[:6], append(example(), broken())
	var group sync.WaitGroup
	for range 8 {
		group.Go(func() {
			for _, s := range chain {
				checkPrime(t, "together", s.N, chain, true)
				checkPrime(t, "together", s.N, bad, false)
			}
			checkChain(t, "together", bad, api.ErrProof)
		})
	}
	group.Wait()
}
