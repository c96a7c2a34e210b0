package curve_test

import (
	"fmt"
	"math/big"
	"math/rand"
	"reflect"
	"slices"
	"testing"

	"sacristy/api"
	"sacristy/curve"
	"sacristy/group"
	"sacristy/mod"
	"sacristy/nat"
)

// P10.2

func checkWeights(t *testing.T, f *mod.Ring, xs []*big.Int, x *big.Int) {
	t.Helper()
	m := toBig(f.Modulus())
	got, errno := curve.Weights(f, nats(xs), fromBig(x))
	if want := faultOf(xs, len(xs), m); errno != want {
		t.Errorf("in the ring of %v: Weights(%v, %v): error %d, not %d", m, xs, x, errno, want)
	} else if want == api.OK {
		if weights := weightsOf(xs, x, m); !areAll(got, weights) {
			t.Errorf("in the ring of %v: Weights(%v, %v): %v, not %v", m, xs, x, allBig(got), weights)
		}
	} else if got != nil {
		t.Errorf("in the ring of %v: Weights(%v, %v): %v beside error %d", m, xs, x, allBig(got), errno)
	}
}

func checkJoin(t *testing.T, f *mod.Ring, xs, ys []*big.Int, x *big.Int) {
	t.Helper()
	m := toBig(f.Modulus())
	got, errno := curve.Join(f, nats(xs), nats(ys), fromBig(x))
	if want := faultOf(xs, len(ys), m); errno != want {
		t.Errorf("in the ring of %v: Join(%v, %v, %v): error %d, not %d", m, xs, ys, x, errno, want)
	} else if want == api.OK {
		if value := joined(xs, ys, x, m); !is(got, value) {
			t.Errorf("in the ring of %v: Join(%v, %v, %v): %v, not %v", m, xs, ys, x, toBig(got), value)
		}
	} else if !isZeroValue(got) {
		t.Errorf("in the ring of %v: Join(%v, %v, %v): %v beside error %d", m, xs, ys, x, toBig(got), errno)
	}
}

// checkThrough: through given places goes one polynomial alone of so many coefficients.
func checkThrough(t *testing.T, f *mod.Ring, xs, ys []*big.Int) {
	t.Helper()
	m := toBig(f.Modulus())
	got, errno := curve.Through(f, nats(xs), nats(ys))
	if want := faultOf(xs, len(ys), m); errno != want {
		t.Errorf("in the ring of %v: Through(%v, %v): error %d, not %d", m, xs, ys, errno, want)
		return
	} else if want != api.OK {
		if got != nil {
			t.Errorf("in the ring of %v: Through(%v, %v): %v beside error %d", m, xs, ys, allBig(got), errno)
		}
		return
	}
	if len(got) != len(xs) {
		t.Errorf("in the ring of %v: Through(%v, %v): %d coefficients", m, xs, ys, len(got))
	}
	for i, a := range got {
		if value := valueOf(allBig(got), xs[i], m); a.Cmp(f.Modulus()) >= 0 || value.Cmp(new(big.Int).Mod(ys[i], m)) != 0 {
			t.Errorf("in the ring of %v: Through(%v, %v): %v is %v at %v", m, xs, ys, allBig(got), value, xs[i])
		}
	}
}

func checkJoinExp(t *testing.T, s sample, g *group.Group, xs, ys []*big.Int, x *big.Int) {
	t.Helper()
	got, errno := curve.JoinExp(g, nats(xs), nats(ys), fromBig(x))
	if want := faultOf(xs, len(ys), s.q); errno != want {
		t.Errorf("P %v, Q %v: JoinExp(%v, %v, %v): error %d, not %d", s.p, s.q, xs, ys, x, errno, want)
	} else if want == api.OK {
		if value := s.joined(xs, ys, x); !is(got, value) {
			t.Errorf("P %v, Q %v: JoinExp(%v, %v, %v): %v, not %v", s.p, s.q, xs, ys, x, toBig(got), value)
		}
	} else if !isZeroValue(got) {
		t.Errorf("P %v, Q %v: JoinExp(%v, %v, %v): %v beside error %d", s.p, s.q, xs, ys, x, toBig(got), errno)
	}
}

// lists: all of so many numbers below the bound.
func lists(bound int64, count int) [][]*big.Int {
	if count == 0 {
		return [][]*big.Int{nil}
	}
	var all [][]*big.Int
	for _, shorter := range lists(bound, count-1) {
		for n := range bound {
			all = append(all, append(slices.Clone(shorter), number(n)))
		}
	}
	return all
}

// All places of small rings, once round and a bit more: those that are the same in the ring, and those whose difference has no inverse.
func TestAllPlaces(t *testing.T) {
	for m := int64(2); m <= 10; m++ {
		f := ring(t, number(m))
		for count := range 4 {
			for i, xs := range lists(m+2, count) {
				x := number(int64(i) % (m + 2))
				checkWeights(t, f, xs, x)
				for values := range 5 {
					ys := bigs(3, int64(i), 1, m-1)[:values]
					checkJoin(t, f, xs, ys, x)
					checkThrough(t, f, xs, ys)
				}
			}
		}
	}
}

// Through all places of a field goes each row of values, and each one of another polynomial.
func TestAllValues(t *testing.T) {
	f := ring(t, number(5))
	for _, xs := range [][]*big.Int{bigs(0, 1, 2, 3, 4), bigs(3, 1, 4, 0), bigs(2, 4, 1), bigs(4, 5), bigs(7)} {
		seen := make(map[string]bool)
		for _, ys := range lists(5, len(xs)) {
			checkThrough(t, f, xs, ys)
			got, _ := curve.Through(f, nats(xs), nats(ys))
			seen[fmt.Sprint(allBig(got))] = true
			if len(xs) < 5 {
				checkJoin(t, f, xs, ys, ys[0])
			}
		}
		if want := len(lists(5, len(xs))); len(seen) != want {
			t.Errorf("places %v: %d polynomials, not %d", xs, len(seen), want)
		}
	}
}

// placesFrom: so many places, below the modulus and above, most often no two the same.
func placesFrom(m *big.Int, count int, random *rand.Rand) []*big.Int {
	xs := drawn(someFor(m, random), count, random)
	for i := range xs {
		if random.Intn(3) == 0 {
			xs[i] = number(int64(i))
		} else if random.Intn(2) == 0 {
			xs[i] = new(big.Int).Rand(random, times(m, 3))
		}
	}
	return xs
}

func TestPlaces(t *testing.T) {
	random := rand.New(rand.NewSource(6))
	counts := make(map[api.Errno]int)
	for _, m := range moduli() {
		f, list := ring(t, m), someFor(m, random)
		for count := range 9 {
			for range 12 {
				xs, x := placesFrom(m, count, random), list[random.Intn(len(list))]
				checkWeights(t, f, xs, x)
				ys := drawn(list, count, random)
				checkJoin(t, f, xs, ys, x)
				checkThrough(t, f, xs, ys)
				counts[faultOf(xs, count, m)]++
				ys = drawn(list, random.Intn(9), random)
				checkJoin(t, f, xs, ys, x)
				checkThrough(t, f, xs, ys)
				counts[faultOf(xs, len(ys), m)]++
			}
		}
	}
	for _, errno := range []api.Errno{api.OK, api.ErrFew, api.ErrArg, api.ErrSame, api.ErrNone} {
		if counts[errno] < 20 {
			t.Errorf("error %d came %d times", errno, counts[errno])
		}
	}
}

// At a place itself its own weight is 1, and the others are 0; all weights come to 1 anywhere.
func TestWeightsAtPlaces(t *testing.T) {
	random := rand.New(rand.NewSource(7))
	for _, m := range primes()[4:] {
		f, xs := ring(t, m), bigs(0, 1, 2, 5, 64)
		for i, x := range xs {
			weights, errno := curve.Weights(f, nats(xs), fromBig(plus(m, x.Int64())))
			want := bigs(0, 0, 0, 0, 0)
			want[i] = number(1)
			if errno != api.OK || !areAll(weights, want) {
				t.Errorf("in the ring of %v: at %v: %v, error %d", m, x, allBig(weights), errno)
			}
		}
		weights, _ := curve.Weights(f, nats(xs), fromBig(new(big.Int).Rand(random, m)))
		sum := nat.New(0)
		for _, weight := range weights {
			sum = f.Add(sum, weight)
		}
		if !is(sum, number(1)) {
			t.Errorf("in the ring of %v: all weights come to %v", m, toBig(sum))
		}
		if one, errno := curve.Weights(f, nats(bigs(9)), nat.New(77)); errno != api.OK || !areAll(one, bigs(1)) {
			t.Errorf("in the ring of %v: the weight of one place: %v, error %d", m, allBig(one), errno)
		}
	}
}

// Of several errors the first one that the chapter names.
func TestOrderOfErrors(t *testing.T) {
	s := example()
	g := s.group(t)
	for _, c := range []struct {
		why    string
		m      int64
		xs, ys []*big.Int
		want   api.Errno
	}{
		{"no places", 8, nil, nil, api.ErrFew},
		{"no places, and values", 8, nil, bigs(1), api.ErrFew},
		{"no values", 8, bigs(1), nil, api.ErrArg},
		{"one value less", 8, bigs(1, 2), bigs(1), api.ErrArg},
		{"one value more", 8, bigs(1, 2), bigs(1, 2, 3), api.ErrArg},
		{"the same, and a value less", 8, bigs(1, 1), bigs(1), api.ErrArg},
		{"no inverse, and a value less", 8, bigs(1, 3), bigs(1), api.ErrArg},
		{"the same", 8, bigs(1, 1), bigs(1, 2), api.ErrSame},
		{"the same with the same value", 8, bigs(1, 1), bigs(1, 1), api.ErrSame},
		{"the same once round", 8, bigs(1, 9), bigs(1, 2), api.ErrSame},
		{"0 and the modulus", 8, bigs(0, 8), bigs(1, 2), api.ErrSame},
		{"the same, not side by side", 8, bigs(9, 2, 5, 1), bigs(1, 2, 3, 4), api.ErrSame},
		{"no inverse ahead of the same", 8, bigs(0, 2, 5, 5), bigs(1, 2, 3, 4), api.ErrSame},
		{"no inverse", 8, bigs(0, 2), bigs(1, 2), api.ErrNone},
		{"no inverse of the last difference", 8, bigs(0, 1, 3), bigs(1, 2, 3), api.ErrNone},
		{"inverses in a ring of no prime", 8, bigs(0, 1), bigs(1, 2), api.OK},
		{"one place, of no inverse", 8, bigs(2), bigs(1), api.OK},
		{"the same in the field", 101, bigs(1, 102), bigs(6, 11), api.ErrSame},
		{"no two the same", 101, bigs(1, 103), bigs(6, 11), api.OK},
	} {
		f := ring(t, number(c.m))
		_, join := curve.Join(f, nats(c.xs), nats(c.ys), nat.New(0))
		_, through := curve.Through(f, nats(c.xs), nats(c.ys))
		if join != c.want || through != c.want {
			t.Errorf("%s: Join's error %d, Through's %d, not %d", c.why, join, through, c.want)
		}
		if len(c.xs) == len(c.ys) {
			if _, errno := curve.Weights(f, nats(c.xs), nat.New(0)); errno != c.want {
				t.Errorf("%s: Weights' error %d, not %d", c.why, errno, c.want)
			}
		}
		checkJoinExp(t, s, g, c.xs, c.ys, number(0))
	}
}

func TestJoinExp(t *testing.T) {
	random := rand.New(rand.NewSource(8))
	for _, s := range samples(t) {
		g, list := s.group(t), placesOf(s, random)
		for count := range 8 {
			for range 12 {
				xs, x := placesFrom(s.q, count, random), list[random.Intn(len(list))]
				checkJoinExp(t, s, g, xs, drawn(s.some(random), count, random), x)
				checkJoinExp(t, s, g, xs, drawn(s.some(random), random.Intn(8), random), x)
			}
		}
		checkJoinExp(t, s, g, bigs(1, 2), []*big.Int{number(1), s.p}, number(2))
		// 0, no times, is 1; and P + 2 is 2.
		checkJoinExp(t, s, g, bigs(1, 2), []*big.Int{plus(s.p, 2), s.p}, number(1))
		// The places are told apart in the field of Q, not in the ring of P.
		checkJoinExp(t, s, g, []*big.Int{number(1), plus(s.q, 1)}, bigs(1, 1), number(0))
		checkJoinExp(t, s, g, []*big.Int{number(1), plus(s.p, 1)}, bigs(1, 1), number(0))
	}
}

// P10.4

// Of as many places as there are coefficients, or more, the values tell all others, in the field and in the exponent.
func TestJoinTellsThePolynomial(t *testing.T) {
	random := rand.New(rand.NewSource(9))
	for _, s := range samples(t) {
		g := s.group(t)
		f := g.Field()
		for places := 1; places <= 7; places++ {
			p := make([]*big.Int, random.Intn(places+1))
			for i := range p {
				p[i] = new(big.Int).Rand(random, times(s.q, 2))
			}
			xs := make([]*big.Int, places)
			for i, x := range random.Perm(66)[:places] {
				xs[i] = plus(times(s.q, int64(i%3)), int64(x))
			}
			ys := make([]*big.Int, places)
			for i, x := range xs {
				ys[i] = valueOf(p, x, s.q)
			}
			for _, x := range placesOf(s, random) {
				want := curve.Eval(f, nats(p), fromBig(x))
				if got, errno := curve.Join(f, nats(xs), nats(ys), fromBig(x)); errno != api.OK || got.Cmp(want) != 0 {
					t.Errorf("Q %v: %v at %v by %v: %v, error %d", s.q, p, x, xs, toBig(got), errno)
				}
				power := g.Exp(g.G(), want)
				if got, errno := curve.JoinExp(g, nats(xs), nats(s.powers(ys)), fromBig(x)); errno != api.OK || got.Cmp(power) != 0 {
					t.Errorf("P %v: %v at %v by %v in the exponent: %v, error %d", s.p, p, x, xs, toBig(got), errno)
				}
				if got := curve.EvalExp(g, nats(s.powers(p)), fromBig(x)); got.Cmp(power) != 0 {
					t.Errorf("P %v: EvalExp of %v at %v: %v", s.p, p, x, toBig(got))
				}
			}
			whole := sumOf(p, nil, s.q)
			for len(whole) < places {
				whole = append(whole, number(0))
			}
			if got, errno := curve.Through(f, nats(xs), nats(ys)); errno != api.OK || !areAll(got, whole) {
				t.Errorf("Q %v: through the values of %v at %v: %v, error %d", s.q, p, xs, allBig(got), errno)
			}
		}
	}
}

func TestThroughManyPlaces(t *testing.T) {
	f := ring(t, plus(power(255), -19))
	xs, ys := make([]*big.Int, api.MaxPeers), make([]*big.Int, api.MaxPeers)
	for i := range xs {
		xs[i], ys[i] = number(int64(i+1)), plus(power(uint(i*5)), 3)
	}
	checkThrough(t, f, xs, ys)
	checkWeights(t, f, xs, number(0))
	checkJoin(t, f, xs, ys, number(65))
}

// spacious: a list with room behind it, in which something stands.
func spacious(list []*big.Int) []nat.Nat {
	return nats(append(slices.Clone(list), bigs(11, 12, 13, 14, 15, 16, 17, 18, 19, 20)...))[:len(list)]
}

// answers: what all calls tell of these.
func answers(f *mod.Ring, g *group.Group, p, q []nat.Nat, x nat.Nat) (rows [][]nat.Nat, values []nat.Nat) {
	weights, _ := curve.Weights(f, p, x)
	through, _ := curve.Through(f, p, q)
	vanish, _ := curve.Vanish(f, p, x)
	join, _ := curve.Join(f, p, q, x)
	joinExp, _ := curve.JoinExp(g, p, q, x)
	rows = [][]nat.Nat{curve.Add(f, p, q), curve.Add(f, p, nil), curve.Add(f, nil, q), curve.Mul(f, p, q), curve.Mul(f, p, nats(bigs(1))), weights, through, vanish}
	return rows, []nat.Nat{curve.Eval(f, p, x), curve.Eval(f, p[:1], x), curve.EvalExp(g, q, x), curve.EvalExp(g, q[:1], x), curve.EvalExp(g, nil, x), join, joinExp}
}

// Neither the numbers change nor the lists, nor the room behind them; and the same is answered again, whatever was done to the first answer.
func TestNothingChanges(t *testing.T) {
	for _, s := range samples(t) {
		g := s.group(t)
		f := g.Field()
		for _, list := range [][]*big.Int{{number(5), plus(s.q, 2), number(7)}, bigs(5, 6, 7), bigs(0, 1, 2)} {
			p, q, x := spacious(list), spacious(s.powers(list)), fromBig(plus(s.q, 3))
			first, values := answers(f, g, p, q, x)
			again, _ := answers(f, g, p, q, x)
			for _, row := range first {
				clear(row[:cap(row)])
			}
			third, later := answers(f, g, p, q, x)
			if !reflect.DeepEqual(again, third) || !reflect.DeepEqual(values, later) {
				t.Errorf("P %v: asked again, something else is answered", s.p)
			}
			want := spacious(list)
			if !reflect.DeepEqual(p[:13], want[:13]) {
				t.Errorf("P %v: the first list has changed", s.p)
			}
			want = spacious(s.powers(list))
			if !reflect.DeepEqual(q[:13], want[:13]) || !is(x, plus(s.q, 3)) {
				t.Errorf("P %v: the second list, or the place, has changed", s.p)
			}
		}
	}
}

// where: the memory in which a number's words stand.
func where(a nat.Nat) uintptr { return reflect.ValueOf(a).Field(0).Pointer() }

func TestAnswersAreNewMemory(t *testing.T) {
	for _, s := range []sample{example(), great(t)} {
		g := s.group(t)
		p, q, x := nats(bigs(5, 6, 7)), nats(s.powers(bigs(1, 2, 3))), nat.New(9)
		seen := map[uintptr]bool{where(x): true}
		for _, a := range append(slices.Clone(p), q...) {
			seen[where(a)] = true
		}
		for range 2 {
			rows, values := answers(g.Field(), g, p, q, x)
			for i, a := range append(slices.Concat(rows...), values...) {
				if seen[where(a)] && !a.Zero() {
					t.Errorf("P %v: number %d of the answers shares memory", s.p, i)
				}
				seen[where(a)] = true
			}
		}
	}
}
