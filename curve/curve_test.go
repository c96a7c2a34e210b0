package curve_test

import (
	"math/big"
	"math/rand"
	"testing"

	"sacristy/api"
	"sacristy/curve"
	"sacristy/nat"
)

func TestExample(t *testing.T) {
	f := ring(t, number(101))
	if got := curve.Eval(f, nats(bigs(3, 2, 1)), nat.New(2)); !is(got, number(11)) {
		t.Errorf("Eval(3 2 1, 2): %v", toBig(got))
	}
	got, errno := curve.Join(f, nats(bigs(1, 2, 3)), nats(bigs(6, 11, 18)), nat.New(0))
	if errno != api.OK || !is(got, number(3)) {
		t.Errorf("Join at 0: %v, error %d", toBig(got), errno)
	}
}

// P10.1: Eval

func TestEval(t *testing.T) {
	random := rand.New(rand.NewSource(1))
	for _, m := range moduli() {
		f, list := ring(t, m), someFor(m, random)
		for count := range 9 {
			for _, x := range list {
				p := drawn(list, count, random)
				if got, want := curve.Eval(f, nats(p), fromBig(x)), valueOf(p, x, m); !is(got, want) {
					t.Errorf("in the ring of %v: Eval(%v, %v): %v, not %v", m, p, x, toBig(got), want)
				}
			}
		}
	}
}

// Each polynomial of up to three coefficients of a small ring, at each place, once round and a bit more.
func TestEvalOfAll(t *testing.T) {
	for m := int64(2); m <= 6; m++ {
		f := ring(t, number(m))
		for a := range m + 2 {
			for b := range m + 2 {
				for c := range m + 2 {
					for x := range m + 2 {
						p := nats(bigs(a, b, c))
						for count, want := range []int64{0, a, a + b*x, a + b*x + c*x*x} {
							if got := curve.Eval(f, p[:count], nat.New(uint64(x))); !is(got, number(want%m)) {
								t.Errorf("in the ring of %d: Eval(%v, %d): %v", m, allBig(p[:count]), x, toBig(got))
							}
						}
					}
				}
			}
		}
	}
}

func TestEvalOfNothing(t *testing.T) {
	for _, m := range moduli() {
		for _, p := range [][]nat.Nat{nil, {}, {{}}, {fromBig(m)}, {{}, {}, {}}} {
			for _, x := range nats(append(bigs(0, 1, 5), m)) {
				if got := curve.Eval(ring(t, m), p, x); !isZeroValue(got) {
					t.Errorf("in the ring of %v: Eval(%v, %v): %v", m, allBig(p), toBig(x), toBig(got))
				}
			}
		}
	}
}

// P10.1: EvalExp

func checkEvalExp(t *testing.T, s sample, c []*big.Int, x *big.Int) {
	t.Helper()
	if got, want := curve.EvalExp(s.group(t), nats(c), fromBig(x)), s.valueOf(c, x); !is(got, want) {
		t.Errorf("P %v, Q %v: EvalExp(%v, %v): %v, not %v", s.p, s.q, c, x, toBig(got), want)
	}
}

// placesOf: about 0, about Q, about P, and any.
func placesOf(s sample, random *rand.Rand) []*big.Int {
	return append(someFor(s.q, random), s.p, plus(s.p, -1), new(big.Int).Rand(random, power(600)))
}

func TestEvalExp(t *testing.T) {
	random := rand.New(rand.NewSource(2))
	for _, s := range samples(t) {
		list := s.some(random)
		for count := range 6 {
			for _, x := range placesOf(s, random) {
				checkEvalExp(t, s, drawn(list, count, random), x)
			}
		}
	}
}

// Of members it is the same whether the products of x go round or not; 2 and 3 are no members, and their powers go round P - 1 alone.
func TestEvalExpOfNoMembers(t *testing.T) {
	s := example()
	for x := range int64(210) {
		checkEvalExp(t, s, bigs(2, 3, 5), number(x))
		checkEvalExp(t, s, bigs(1, 1, 3), number(x))
		checkEvalExp(t, s, bigs(1, 1, 1, 606), number(x))
	}
	for _, c := range []struct{ x, want int64 }{
		{0, 1}, {1, 3}, {51, s.exp(number(3), number(51*51)).Int64()}, {101, 1}, {102, 3}, {607, 3},
	} {
		if got := curve.EvalExp(s.group(t), nats(bigs(1, 1, 3)), nat.New(uint64(c.x))); !is(got, number(c.want)) {
			t.Errorf("EvalExp(1 1 3, %d): %v, not %d", c.x, toBig(got), c.want)
		}
	}
	if s.exp(number(3), number(51*51)).Cmp(s.exp(number(3), number(51*51%101))) == 0 {
		t.Error("3 doesn't tell both ways apart")
	}
}

// Nothing of no number, 0 too, is 1; and one coefficient is told in the ring of P.
func TestEvalExpOfNought(t *testing.T) {
	for _, s := range samples(t) {
		g := s.group(t)
		for _, x := range nats(append(bigs(0, 1, 5), s.q, s.p)) {
			for _, c := range [][]nat.Nat{nil, {}, {nat.New(1)}, {fromBig(plus(s.p, 1))}} {
				if got := curve.EvalExp(g, c, x); !is(got, number(1)) {
					t.Errorf("P %v: EvalExp(%v, %v): %v", s.p, allBig(c), toBig(x), toBig(got))
				}
			}
			if got := curve.EvalExp(g, nats([]*big.Int{s.p}), x); !isZeroValue(got) {
				t.Errorf("P %v: EvalExp(P, %v): %v", s.p, toBig(x), toBig(got))
			}
		}
		for _, x := range nats([]*big.Int{number(0), s.q, times(s.q, 9)}) {
			if got := curve.EvalExp(g, nats(bigs(5, 0, 0)), x); !is(got, number(5)) {
				t.Errorf("P %v: EvalExp(5 0 0, %v): %v", s.p, toBig(x), toBig(got))
			}
		}
	}
}

// P10.1: Add, Mul

func sumOf(p, q []*big.Int, m *big.Int) []*big.Int {
	sum := make([]*big.Int, max(len(p), len(q)))
	for i := range sum {
		sum[i] = new(big.Int)
		if i < len(p) {
			sum[i].Add(sum[i], p[i])
		}
		if i < len(q) {
			sum[i].Add(sum[i], q[i])
		}
		sum[i].Mod(sum[i], m)
	}
	return sum
}

// productOf: each coefficient by itself: of x^n the sum of all pairs whose places come to n.
func productOf(p, q []*big.Int, m *big.Int) []*big.Int {
	if len(p) == 0 || len(q) == 0 {
		return nil
	}
	product := make([]*big.Int, len(p)+len(q)-1)
	for n := range product {
		product[n] = new(big.Int)
		for i := range p {
			if k := n - i; k >= 0 && k < len(q) {
				product[n].Add(product[n], new(big.Int).Mul(p[i], q[k]))
			}
		}
		product[n].Mod(product[n], m)
	}
	return product
}

func TestAddAndMul(t *testing.T) {
	random := rand.New(rand.NewSource(3))
	for _, m := range moduli() {
		f, list := ring(t, m), someFor(m, random)
		for i := range 7 {
			for k := range 7 {
				p, q := drawn(list, i, random), drawn(list, k, random)
				if got, want := curve.Add(f, nats(p), nats(q)), sumOf(p, q, m); !areAll(got, want) {
					t.Errorf("in the ring of %v: Add(%v, %v): %v, not %v", m, p, q, allBig(got), want)
				}
				if got, want := curve.Mul(f, nats(p), nats(q)), productOf(p, q, m); !areAll(got, want) {
					t.Errorf("in the ring of %v: Mul(%v, %v): %v, not %v", m, p, q, allBig(got), want)
				}
			}
		}
	}
}

// Coefficients that come to 0 at the end are told too.
func TestHowManyCoefficients(t *testing.T) {
	for _, c := range []struct {
		m                  int64
		p, q, sum, product []*big.Int
	}{
		{101, bigs(1, 2), bigs(0, 99), bigs(1, 0), bigs(0, 99, 97)},
		{101, bigs(100), bigs(1), bigs(0), bigs(100)},
		{101, bigs(0), bigs(0), bigs(0), bigs(0)},
		{101, bigs(0, 0), bigs(0, 0, 0), bigs(0, 0, 0), bigs(0, 0, 0, 0)},
		{101, bigs(102, 203), nil, bigs(1, 1), nil},
		{101, nil, bigs(102, 203, 101), bigs(1, 1, 0), nil},
		{101, nil, nil, nil, nil},
		{6, bigs(2, 2), bigs(3, 3), bigs(5, 5), bigs(0, 0, 0)},
		{2, bigs(1, 1), bigs(1, 1), bigs(0, 0), bigs(1, 0, 1)},
	} {
		f := ring(t, number(c.m))
		for range 2 {
			if got := curve.Add(f, nats(c.p), nats(c.q)); !areAll(got, c.sum) {
				t.Errorf("in the ring of %d: Add(%v, %v): %v", c.m, c.p, c.q, allBig(got))
			}
			if got := curve.Mul(f, nats(c.p), nats(c.q)); !areAll(got, c.product) {
				t.Errorf("in the ring of %d: Mul(%v, %v): %v", c.m, c.p, c.q, allBig(got))
			}
			c.p, c.q = c.q, c.p
		}
		if got := curve.Add(f, nil, []nat.Nat{}); len(got) != 0 {
			t.Errorf("the sum of none: %v", allBig(got))
		}
	}
}

// At each place the sum's value is the values' sum, and the product's their product.
func TestValuesOfSumAndProduct(t *testing.T) {
	random := rand.New(rand.NewSource(4))
	for _, m := range moduli() {
		f, list := ring(t, m), someFor(m, random)
		for count := range 8 {
			p, q := nats(drawn(list, count, random)), nats(drawn(list, 7-count, random))
			for _, x := range nats(list) {
				a, b := curve.Eval(f, p, x), curve.Eval(f, q, x)
				if got := curve.Eval(f, curve.Add(f, p, q), x); got.Cmp(f.Add(a, b)) != 0 {
					t.Errorf("in the ring of %v: %v + %v at %v: %v", m, allBig(p), allBig(q), toBig(x), toBig(got))
				}
				if got := curve.Eval(f, curve.Mul(f, p, q), x); got.Cmp(f.Mul(a, b)) != 0 {
					t.Errorf("in the ring of %v: %v * %v at %v: %v", m, allBig(p), allBig(q), toBig(x), toBig(got))
				}
			}
		}
	}
}

// P10.3: Vanish

func checkVanish(t *testing.T, m *big.Int, p []*big.Int, x *big.Int) {
	t.Helper()
	got, errno := curve.Vanish(ring(t, m), nats(p), fromBig(x))
	want := append([]*big.Int{number(0)}, p[1:]...)
	want[0] = new(big.Int).Sub(number(0), valueOf(want, x, m))
	want[0].Mod(want[0], m)
	if errno != api.OK || !areAll(got, want) {
		t.Errorf("in the ring of %v: Vanish(%v, %v): %v, error %d, not %v", m, p, x, allBig(got), errno, want)
	}
	if value := curve.Eval(ring(t, m), got, fromBig(x)); !isZeroValue(value) {
		t.Errorf("in the ring of %v: Vanish(%v, %v) is %v there", m, p, x, toBig(value))
	}
}

func TestVanish(t *testing.T) {
	random := rand.New(rand.NewSource(5))
	for _, m := range moduli() {
		list := someFor(m, random)
		for count := 1; count < 8; count++ {
			for _, x := range list {
				checkVanish(t, m, drawn(list, count, random), x)
			}
		}
	}
}

// The others are as they were handed in, not in the field; the one of x^0 is in it.
func TestVanishLeavesTheOthers(t *testing.T) {
	f := ring(t, number(101))
	for _, c := range []struct {
		p    []*big.Int
		x    int64
		want []*big.Int
	}{
		{bigs(7, 102, 1000), 0, bigs(0, 102, 1000)},
		{bigs(7, 102, 1000), 1, bigs(9, 102, 1000)},
		{bigs(7, 102, 1000), 102, bigs(9, 102, 1000)},
		{bigs(101, 101), 5, bigs(0, 101)},
		{bigs(1000), 5, bigs(0)},
		{bigs(0), 0, bigs(0)},
		{bigs(99, 1), 2, bigs(99, 1)},
		{bigs(200, 1), 2, bigs(99, 1)},
		{bigs(5, 1, 0, 0), 2, bigs(99, 1, 0, 0)},
	} {
		got, errno := curve.Vanish(f, nats(c.p), nat.New(uint64(c.x)))
		if errno != api.OK || !areAll(got, c.want) {
			t.Errorf("Vanish(%v, %d): %v, error %d, not %v", c.p, c.x, allBig(got), errno, c.want)
		}
	}
}

func TestVanishOfNone(t *testing.T) {
	for _, m := range moduli() {
		for _, p := range [][]nat.Nat{nil, {}} {
			if got, errno := curve.Vanish(ring(t, m), p, nat.New(1)); errno != api.ErrFew || got != nil {
				t.Errorf("in the ring of %v: %v, error %d", m, allBig(got), errno)
			}
		}
	}
}

// P10.3: a nil field, a nil group

func TestNilFieldAndGroup(t *testing.T) {
	x := nat.New(5)
	lists := [][]nat.Nat{nil, {}, nats(bigs(0)), nats(bigs(1)), nats(bigs(1, 2, 3)), nats(bigs(4, 4))}
	for _, p := range lists {
		for _, q := range lists {
			if got := curve.Eval(nil, p, x); !isZeroValue(got) {
				t.Errorf("Eval(%v): %v", allBig(p), toBig(got))
			}
			if got := curve.EvalExp(nil, p, x); !isZeroValue(got) {
				t.Errorf("EvalExp(%v): %v", allBig(p), toBig(got))
			}
			if sum, product := curve.Add(nil, p, q), curve.Mul(nil, p, q); sum != nil || product != nil {
				t.Errorf("%v, %v: Add %v, Mul %v", allBig(p), allBig(q), allBig(sum), allBig(product))
			}
			if got, errno := curve.Weights(nil, p, x); errno != api.ErrArg || got != nil {
				t.Errorf("Weights(%v): %v, error %d", allBig(p), allBig(got), errno)
			}
			if got, errno := curve.Join(nil, p, q, x); errno != api.ErrArg || !isZeroValue(got) {
				t.Errorf("Join(%v, %v): %v, error %d", allBig(p), allBig(q), toBig(got), errno)
			}
			if got, errno := curve.JoinExp(nil, p, q, x); errno != api.ErrArg || !isZeroValue(got) {
				t.Errorf("JoinExp(%v, %v): %v, error %d", allBig(p), allBig(q), toBig(got), errno)
			}
			if got, errno := curve.Through(nil, p, q); errno != api.ErrArg || got != nil {
				t.Errorf("Through(%v, %v): %v, error %d", allBig(p), allBig(q), allBig(got), errno)
			}
			if got, errno := curve.Vanish(nil, p, x); errno != api.ErrArg || got != nil {
				t.Errorf("Vanish(%v): %v, error %d", allBig(p), allBig(got), errno)
			}
		}
	}
}
