package group_test

import (
	"fmt"
	"math/big"
	"math/rand"
	"reflect"
	"slices"
	"testing"

	"sacristy/api"
	"sacristy/cert"
	"sacristy/group"
	"sacristy/nat"
)

// P9.1: New

func TestExample(t *testing.T) {
	g := example().group(t)
	if !is(g.Exp(nat.New(64), nat.New(101)), number(1)) || g.Member(nat.New(2)) {
		t.Errorf("Exp(64, 101): %v, Member(2): %v", toBig(g.Exp(nat.New(64), nat.New(101))), g.Member(nat.New(2)))
	}
}

func TestNew(t *testing.T) {
	for _, s := range all(t) {
		g := s.group(t)
		if !is(g.P(), s.p) || !is(g.G(), s.g) || !is(g.Field().Modulus(), s.q) {
			t.Errorf("of P %v, Q %v, G %v: P %v, Q %v, G %v", s.p, s.q, s.g, toBig(g.P()), toBig(g.Field().Modulus()), toBig(g.G()))
		}
		if want := (s.p.BitLen() + 7) / 8; g.Size() != want {
			t.Errorf("P %v: Size %d, not %d", s.p, g.Size(), want)
		}
	}
}

func checkNew(t *testing.T, what string, p group.Params, chain []cert.Step, want api.Errno) {
	t.Helper()
	g, errno := group.New(p, chain)
	if errno != want || (g != nil) != (want == api.OK) {
		t.Errorf("%s: error %d, not %d; a group: %v", what, errno, want, g != nil)
	}
}

func params(p, q, g uint64) group.Params {
	return group.Params{P: nat.New(p), Q: nat.New(q), G: nat.New(g)}
}

func TestNotRight(t *testing.T) {
	for _, c := range []struct {
		why     string
		p, q, g uint64
		want    api.Errno
	}{
		{"right", 607, 101, 64, api.OK},
		{"another member for a base", 607, 101, 64 * 64 % 607, api.OK},
		{"67 is the least Q", 269, 67, 16, api.OK},
		{"Q 61", 367, 61, 64, api.ErrArg},
		{"Q 3", 607, 3, 210, api.ErrArg},
		{"Q 2", 607, 2, 606, api.ErrArg},
		{"Q doesn't divide P - 1", 607, 103, 64, api.ErrArg},
		{"Q divides P + 1", 401, 67, 16, api.ErrArg},
		{"Q is P", 607, 607, 64, api.ErrArg},
		{"Q above P", 607, 1009, 64, api.ErrArg},
		{"G 0", 607, 101, 0, api.ErrArg},
		{"G 1", 607, 101, 1, api.ErrArg},
		{"G 2, no member", 607, 101, 2, api.ErrArg},
		{"G P - 1", 607, 101, 606, api.ErrArg},
		{"G P", 607, 101, 607, api.ErrArg},
		{"G P + 1", 607, 101, 608, api.ErrArg},
		{"G a member, once round", 607, 101, 607 + 64, api.ErrArg},
		{"G is minus a member", 607, 101, 607 - 64, api.ErrArg},
		{"P 2", 2, 67, 1, api.ErrArg},
		{"P and Q 2", 2, 2, 1, api.ErrArg},
		{"P 3", 3, 2, 2, api.ErrArg},
		{"all 0", 0, 0, 0, api.ErrProof},
		{"P 1", 1, 101, 64, api.ErrProof},
		{"Q 1", 607, 1, 64, api.ErrProof},
		{"Q 0", 607, 0, 64, api.ErrProof},
		{"P 0", 0, 101, 64, api.ErrProof},
		{"P is no prime", 671, 101, 64, api.ErrProof},
		{"Q is no prime", 163, 81, 4, api.ErrProof},
		{"Q is no prime, nor is all the rest right", 607, 64, 1, api.ErrProof},
		{"P is no prime, nor is all the rest right", 9, 2, 0, api.ErrProof},
		{"P's and Q's places changed", 101, 607, 64, api.ErrArg},
		{"P no small one", 65543 - 6, 65537, 2, api.ErrProof},
	} {
		checkNew(t, c.why, params(c.p, c.q, c.g), nil, c.want)
		checkNew(t, c.why+", a chain beside", params(c.p, c.q, c.g), middling(t).chain, c.want)
	}
}

// For one P each number is asked for as Q, and each one as G.
func TestAllSmallParameters(t *testing.T) {
	for n := range uint64(620) {
		want := api.OK
		switch {
		case !number(int64(n)).ProbablyPrime(0):
			want = api.ErrProof
		case n != 101:
			want = api.ErrArg
		}
		checkNew(t, fmt.Sprint("Q ", n), params(607, n, 64), nil, want)
		want = api.ErrArg
		if n > 1 && example().isMember(number(int64(n))) {
			want = api.OK
		}
		checkNew(t, fmt.Sprint("G ", n), params(607, 101, n), nil, want)
		want = api.ErrProof
		if number(int64(n)).ProbablyPrime(0) {
			want = api.ErrArg
		}
		if n == 607 {
			want = api.OK
		}
		checkNew(t, fmt.Sprint("P ", n), params(n, 101, 64), nil, want)
	}
}

func TestTooLong(t *testing.T) {
	least, greatest := power(8*api.MaxBytes), plus(power(8*api.MaxBytes), -1)
	for _, s := range []sample{example(), great(t), {p: number(9), q: number(9), g: number(0)}} {
		for part, enough := range []api.Errno{api.ErrProof, api.ErrProof, api.ErrArg} {
			for _, n := range []*big.Int{least, plus(least, 1), power(1031), power(2048), power(9000)} {
				checkNew(t, fmt.Sprint("a long number at ", part), changed(s, part, n), s.chain, api.ErrLong)
			}
			if part < 2 || s.p.Cmp(number(9)) > 0 {
				checkNew(t, fmt.Sprint("the greatest number at ", part), changed(s, part, greatest), s.chain, enough)
			}
		}
		p := s.params()
		p.Seed = make([]byte, api.MaxBytes+1)
		checkNew(t, "a long seed", p, s.chain, api.ErrLong)
		checkNew(t, "a long seed, and no chain", p, nil, api.ErrLong)
		p.Seed = make([]byte, 70000)
		checkNew(t, "a very long seed", p, s.chain, api.ErrLong)
	}
	p := example().params()
	for n := range api.MaxBytes + 1 {
		p.Seed = make([]byte, n)
		checkNew(t, "a seed", p, nil, api.OK)
	}
}

// changed: with another P, Q or G.
func changed(s sample, part int, n *big.Int) group.Params {
	switch part {
	case 0:
		s.p = n
	case 1:
		s.q = n
	case 2:
		s.g = n
	}
	return s.params()
}

func TestChain(t *testing.T) {
	for _, s := range []sample{middling(t), wide(t)} {
		p, chain := s.params(), s.chain
		checkNew(t, "no chain", p, nil, api.ErrProof)
		for i := range chain {
			checkNew(t, "one step missing", p, slices.Delete(slices.Clone(chain), i, i+1), api.ErrProof)
		}
		checkNew(t, "a step twice", p, append(slices.Clone(chain), chain[0]), api.OK)
		checkNew(t, "a step that doesn't hold", p, append(slices.Clone(chain), cert.Step{}), api.ErrProof)
		checkNew(t, "too many steps", p, append(slices.Clone(chain), slices.Repeat(chain[:1], api.MaxSteps)...), api.ErrProof)
		long := append(slices.Clone(chain), chain[0])
		long[len(chain)].Base = fromBig(power(1024))
		checkNew(t, "a long number in the chain", p, long, api.ErrProof)
	}
	many := slices.Repeat([]cert.Step{{}}, api.MaxSteps+1)
	checkNew(t, "small primes need no chain", example().params(), many, api.OK)
}

// P's step leans on another prime, so that a chain can have P or Q alone.
func TestBothMustBeInTheChain(t *testing.T) {
	random := rand.New(rand.NewSource(1))
	forQ, forR := climb(t, random, 23), climb(t, random, 30, 50)
	q, r := last(forQ), last(forR)
	p := primeOver(t, random, 90, q, r)
	s := sample{p: p, q: q, g: generator(p, q)}
	forP := append(forR, stepOver(p, r))
	checkNew(t, "both", s.params(), append(slices.Clone(forP), forQ...), api.OK)
	checkNew(t, "P alone", s.params(), forP, api.ErrProof)
	checkNew(t, "Q alone", s.params(), forQ, api.ErrProof)
	s.q, s.g = number(101), number(64)
	checkNew(t, "P, and a small Q that isn't right", s.params(), forP, api.ErrArg)
	s.p, s.q = number(607), q
	checkNew(t, "a small P, and Q", s.params(), forQ, api.ErrArg)
	checkNew(t, "a small P, and no Q", s.params(), forP, api.ErrProof)
}

// A great group is asked for the same as a small one.
func TestGreatNotRight(t *testing.T) {
	s := great(t)
	r := toBig(s.chain[8].N)
	for _, c := range []struct {
		why  string
		q, g *big.Int
		want api.Errno
	}{
		{"another G", s.q, s.exp(s.g, number(5)), api.OK},
		{"G no member", s.q, number(2), api.ErrArg},
		{"G of the other prime's", s.q, generator(s.p, r), api.ErrArg},
		{"the other prime and its G", r, generator(s.p, r), api.OK},
		{"G P - 1", s.q, plus(s.p, -1), api.ErrArg},
		{"G P", s.q, s.p, api.ErrArg},
		{"G 1", s.q, number(1), api.ErrArg},
		{"Q 2", number(2), plus(s.p, -1), api.ErrArg},
		{"a Q that doesn't divide", toBig(s.chain[7].N), s.g, api.ErrArg},
		{"Q is P", s.p, s.g, api.ErrArg},
	} {
		other := sample{p: s.p, q: c.q, g: c.g, seed: s.seed}
		checkNew(t, c.why, other.params(), s.chain, c.want)
	}
}

// P9.1: the second base

func checkSecond(t *testing.T, s sample) int {
	t.Helper()
	want, c := s.second(t)
	if h := s.group(t).H(); !is(h, want) || !s.isMember(want) {
		t.Errorf("P %v, Q %v, seed %x: H %v, not %v", s.p, s.q, s.seed, toBig(h), want)
	}
	return c
}

func TestSecondBase(t *testing.T) {
	for seed, want := range map[string]int64{"": 597, "seed": 356, "a": 214, "b": 193, "15": 478} {
		s := example()
		s.seed = []byte(seed)
		if h := s.group(t).H(); !is(h, number(want)) {
			t.Errorf("seed %q: H %v, not %d", seed, toBig(h), want)
		}
	}
	for _, s := range all(t) {
		checkSecond(t, s)
		for _, seed := range [][]byte{nil, {}, {0}, {0, 0}, []byte("h"), slices.Repeat([]byte{7}, 64), slices.Repeat([]byte{7}, 65), make([]byte, 128)} {
			s.seed = seed
			if s.p.BitLen() < 1000 {
				checkSecond(t, s)
			}
		}
	}
}

// Now and then the first number gives 1, or 0.
func TestSecondBaseOfALaterTry(t *testing.T) {
	tries := make(map[int]int)
	for seed := range 5000 {
		s := example()
		s.seed = []byte(fmt.Sprint(seed))
		tries[checkSecond(t, s)]++
	}
	if tries[0] == 0 || tries[1] == 0 {
		t.Errorf("so many of each try: %v", tries)
	}
}

// The base G counts for nothing in H.
func TestSecondBaseIsOfTheSeed(t *testing.T) {
	s := example()
	h := s.group(t).H()
	s.g = s.exp(s.g, number(3))
	if !reflect.DeepEqual(s.group(t).H(), h) {
		t.Error("another G, another H")
	}
}
