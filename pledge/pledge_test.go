package pledge_test

import (
	"math/big"
	"math/rand"
	"slices"
	"testing"

	"sacristy/api"
	"sacristy/nat"
	"sacristy/pledge"
)

// What another writing of the chapter, in another language, told.
func TestExamplesOfOne(t *testing.T) {
	other := made(number(719), number(359), number(4), nil)
	for _, c := range []struct {
		of                  sample
		value, mask, pledge int64
	}{
		{example(), 0, 0, 1}, {example(), 1, 0, 64}, {example(), 0, 1, 597}, {example(), 3, 5, 347}, {example(), 2, 7, 49},
		{example(), 100, 100, 515}, {example(), 102, 358, 537},
		{other, 0, 0, 1}, {other, 1, 0, 4}, {other, 0, 1, 174}, {other, 3, 5, 54}, {other, 2, 7, 334},
		{other, 100, 100, 389}, {other, 102, 358, 651},
	} {
		if got := pledge.Of(c.of.group, nat.New(uint64(c.value)), nat.New(uint64(c.mask))); !is(got, number(c.pledge)) {
			t.Errorf("Q %v: Of(%d, %d): %v, not %d", c.of.q, c.value, c.mask, toBig(got), c.pledge)
		}
	}
}

func TestExamplesOfMany(t *testing.T) {
	other := made(number(719), number(359), number(4), nil)
	for _, c := range []struct {
		of                              sample
		values, masks, pledges, bare    []*big.Int
		value, mask, atFour, bareAtFour int64
	}{
		{example(), bigs(3, 2), bigs(5, 7), bigs(347, 49), bigs(527, 454), 11, 33, 451, 222},
		{example(), bigs(1, 2, 3), bigs(4), bigs(222, 454, 527), bigs(64, 454, 527), 57, 4, 356, 212},
		{example(), nil, bigs(6, 1), bigs(271, 597), nil, 0, 10, 352, 1},
		{example(), bigs(9, 0, 0, 100), bigs(0, 0, 0, 0, 1), bigs(308, 1, 1, 313, 597), bigs(308, 1, 1, 313), 46, 54, 151, 340},
		{other, bigs(3, 2), bigs(5, 7), bigs(54, 334), bigs(64, 16), 11, 33, 259, 377},
		{other, bigs(1, 2, 3), bigs(4), bigs(609, 16, 64), bigs(4, 16, 64), 57, 4, 581, 541},
		{other, nil, bigs(6, 1), bigs(12, 174), nil, 0, 10, 389, 1},
		{other, bigs(9, 0, 0, 100), bigs(0, 0, 0, 0, 1), bigs(428, 1, 1, 339, 174), bigs(428, 1, 1, 339), 306, 256, 281, 249},
	} {
		g, four, value, mask := c.of.group, nat.New(4), nat.New(uint64(c.value)), nat.New(uint64(c.mask))
		pledges, bare := pledge.All(g, nats(c.values), nats(c.masks)), pledge.Bare(g, nats(c.values))
		if !areAll(pledges, c.pledges) || !areAll(bare, c.bare) {
			t.Errorf("Q %v: %v, %v: All %v, Bare %v", c.of.q, c.values, c.masks, allBig(pledges), allBig(bare))
		}
		if a, b := pledge.At(g, pledges, four), pledge.At(g, bare, four); !is(a, number(c.atFour)) || !is(b, number(c.bareAtFour)) {
			t.Errorf("Q %v: %v, %v: at 4 %v, %v", c.of.q, c.values, c.masks, toBig(a), toBig(b))
		}
		if !pledge.Opens(g, pledges, four, value, mask) || !pledge.Fits(g, bare, four, value) {
			t.Errorf("Q %v: %v, %v: not opened, or not fitted, at 4", c.of.q, c.values, c.masks)
		}
	}
}

// P13.1: Of

func checkOf(t *testing.T, s sample, value, mask *big.Int) {
	t.Helper()
	if got, want := pledge.Of(s.group, fromBig(value), fromBig(mask)), s.of(value, mask); !is(got, want) {
		t.Errorf("Q %v: Of(%v, %v): %v, not %v", s.q, value, mask, toBig(got), want)
	}
}

func TestOf(t *testing.T) {
	random := rand.New(rand.NewSource(1))
	for _, s := range all() {
		list := s.exponents(random)
		for i, value := range list {
			checkOf(t, s, value, number(0))
			checkOf(t, s, number(0), value)
			for k, mask := range list {
				if s.q.BitLen() < 30 || (i+k)%5 == 0 {
					checkOf(t, s, value, mask)
				}
			}
		}
	}
}

// All values and all masks of a small group, and a bit more.
func TestOfAll(t *testing.T) {
	s := example()
	for value := range int64(104) {
		for mask := range int64(104) {
			checkOf(t, s, number(value), number(mask))
		}
	}
}

func TestOfNothing(t *testing.T) {
	for _, s := range all() {
		for _, nought := range []nat.Nat{{}, nat.New(0), fromBig(s.q), fromBig(product(s.q, s.q))} {
			for _, other := range []nat.Nat{{}, fromBig(s.q)} {
				if got := pledge.Of(s.group, nought, other); !is(got, number(1)) {
					t.Errorf("Q %v: Of(%v, %v): %v", s.q, toBig(nought), toBig(other), toBig(got))
				}
			}
		}
	}
}

// P13.1: All, Bare

// Of as many coefficients as the longer one has; those that are missing at the end count as 0, whatever the others are.
func TestAllAndBare(t *testing.T) {
	random := rand.New(rand.NewSource(2))
	for _, s := range all() {
		list := s.exponents(random)
		most := 6
		if s.q.BitLen() > 30 {
			most = 3
		}
		for i := range most {
			for k := range most {
				p, m := drawn(list, i, random), drawn(list, k, random)
				if got, want := pledge.All(s.group, nats(p), nats(m)), s.all(p, m); !areAll(got, want) {
					t.Errorf("Q %v: All(%v, %v): %v, not %v", s.q, p, m, allBig(got), want)
				}
				if got, want := pledge.Bare(s.group, nats(p)), s.all(p, nil); !areAll(got, want) {
					t.Errorf("Q %v: Bare(%v): %v, not %v", s.q, p, allBig(got), want)
				}
			}
		}
	}
}

// Coefficients of 0, at the end too, have their pledges.
func TestAllOfNoughts(t *testing.T) {
	for _, s := range all() {
		for count := range 5 {
			noughts, ones := make([]nat.Nat, count), slices.Repeat(bigs(1), count)
			for i, got := range [][]nat.Nat{pledge.All(s.group, noughts, nil), pledge.All(s.group, []nat.Nat{}, noughts), pledge.All(s.group, noughts, noughts), pledge.Bare(s.group, noughts)} {
				if !areAll(got, ones) {
					t.Errorf("Q %v: %d noughts, call %d: %v", s.q, count, i, allBig(got))
				}
			}
		}
	}
}

func TestAllOfMany(t *testing.T) {
	for _, s := range []sample{example(), greats()[0]} {
		p, m := make([]*big.Int, api.MaxPeers), make([]*big.Int, api.MaxPeers+1)
		for i := range p {
			p[i] = power(uint(i * 3))
		}
		for i := range m {
			m[i] = plus(power(uint(i*5)), int64(i))
		}
		if got := pledge.All(s.group, nats(p), nats(m)); !areAll(got, s.all(p, m)) {
			t.Errorf("Q %v: All of many: %v", s.q, allBig(got))
		}
		if got := pledge.Bare(s.group, nats(m)); !areAll(got, s.all(m, nil)) {
			t.Errorf("Q %v: Bare of many: %v", s.q, allBig(got))
		}
	}
}

// P13.1: At

func checkAt(t *testing.T, s sample, c []*big.Int, x *big.Int) {
	t.Helper()
	if got, want := pledge.At(s.group, nats(c), fromBig(x)), s.at(c, x); !is(got, want) {
		t.Errorf("Q %v: At(%v, %v): %v, not %v", s.q, c, x, toBig(got), want)
	}
}

// Of any numbers, members or not.
func TestAt(t *testing.T) {
	random := rand.New(rand.NewSource(3))
	for _, s := range all() {
		list := s.some(random)
		for count := range 5 {
			for _, x := range s.places(random) {
				checkAt(t, s, drawn(list, count, random), x)
			}
		}
	}
}

// The value of none is 1, everywhere; at 0, and at Q, it is the first one.
func TestAtOfFew(t *testing.T) {
	random := rand.New(rand.NewSource(4))
	for _, s := range all() {
		for _, x := range nats(s.places(random)) {
			for _, none := range [][]nat.Nat{nil, {}} {
				if got := pledge.At(s.group, none, x); !is(got, number(1)) {
					t.Errorf("Q %v: At(none, %v): %v", s.q, toBig(x), toBig(got))
				}
			}
		}
		c := []*big.Int{s.of(number(3), number(4)), s.of(number(5), number(6)), s.g}
		for _, x := range []nat.Nat{{}, fromBig(s.q), fromBig(product(s.q, s.p))} {
			if got := pledge.At(s.group, nats(c), x); !is(got, c[0]) {
				t.Errorf("Q %v: At(%v, %v): %v", s.q, c, toBig(x), toBig(got))
			}
		}
	}
}

// P13.1: Opens, Fits

func checkOpens(t *testing.T, s sample, c []*big.Int, x, value, mask *big.Int) {
	t.Helper()
	want := s.of(value, mask).Cmp(s.at(c, x)) == 0
	if got := pledge.Opens(s.group, nats(c), fromBig(x), fromBig(value), fromBig(mask)); got != want {
		t.Errorf("Q %v: Opens(%v, %v, %v, %v): %v", s.q, c, x, value, mask, got)
	}
}

func checkFits(t *testing.T, s sample, c []*big.Int, x, value *big.Int) {
	t.Helper()
	want := s.exp(s.g, value).Cmp(s.at(c, x)) == 0
	if got := pledge.Fits(s.group, nats(c), fromBig(x), fromBig(value)); got != want {
		t.Errorf("Q %v: Fits(%v, %v, %v): %v", s.q, c, x, value, got)
	}
}

// All values and all masks of a small group, and a bit more.
func TestOpensAndFitsOfAll(t *testing.T) {
	s := example()
	for i, c := range [][]*big.Int{nil, bigs(1), bigs(347, 49), bigs(222, 454, 527), bigs(2, 3), bigs(0), bigs(607+64, 454)} {
		x := number(int64(i * 3))
		for value := range int64(103) {
			checkFits(t, s, c, x, number(value))
			for mask := range int64(103) {
				checkOpens(t, s, c, x, number(value), number(mask))
			}
		}
	}
}

// For each value one mask opens a pledge in the field, and a bare one is fitted by one value.
func TestHowManyOpen(t *testing.T) {
	s := example()
	pledges, bare, x := pledge.All(s.group, nats(bigs(3, 2)), nats(bigs(5, 7))), pledge.Bare(s.group, nats(bigs(3, 2))), nat.New(4)
	fitting := 0
	for value := range uint64(101) {
		opening := 0
		for mask := range uint64(101) {
			if pledge.Opens(s.group, pledges, x, nat.New(value), nat.New(mask)) {
				opening++
			}
		}
		if opening != 1 {
			t.Errorf("with the value %d %d masks open", value, opening)
		}
		if pledge.Fits(s.group, bare, x, nat.New(value)) {
			fitting++
		}
	}
	if fitting != 1 {
		t.Errorf("%d values fit", fitting)
	}
}

func TestOpensAndFits(t *testing.T) {
	random := rand.New(rand.NewSource(5))
	for _, s := range all() {
		xs := s.places(random)
		for count := range 4 {
			p, m, x := drawn(s.exponents(random), count, random), drawn(s.exponents(random), 3-count, random), xs[random.Intn(len(xs))]
			value, mask := s.valueOf(p, x), s.valueOf(m, x)
			for _, more := range [][2]*big.Int{{number(0), number(0)}, {s.q, number(0)}, {number(0), s.q}, {number(1), number(0)}, {number(0), number(1)}, {product(s.q, s.q), s.p}} {
				checkOpens(t, s, s.all(p, m), x, sum(value, more[0]), sum(mask, more[1]))
				checkOpens(t, s, s.all(p, m), plus(x, 1), sum(value, more[0]), sum(mask, more[1]))
				checkFits(t, s, s.all(p, nil), x, sum(value, more[0]))
				checkFits(t, s, s.all(p, m), x, sum(value, more[0]))
			}
		}
	}
}

// Pledges that are no members: what stands on both sides is a number of the ring of P, and nothing else is asked.
func TestOpensAndFitsOfNoMembers(t *testing.T) {
	for _, s := range all() {
		for _, n := range s.noMembers(s.g) {
			for _, value := range []*big.Int{number(0), number(1), number(2), s.q} {
				checkFits(t, s, []*big.Int{n}, number(3), value)
				checkOpens(t, s, []*big.Int{n}, number(3), value, number(0))
				checkOpens(t, s, []*big.Int{s.h, n}, number(1), value, number(1))
			}
		}
		if !pledge.Fits(s.group, []nat.Nat{fromBig(sum(s.p, s.g))}, nat.New(5), nat.New(1)) {
			t.Errorf("Q %v: P + G isn't fitted by 1", s.q)
		}
	}
}

// P13.1: Join

func checkJoin(t *testing.T, s sample, rows ...[]*big.Int) {
	t.Helper()
	var list [][]nat.Nat
	for _, row := range rows {
		list = append(list, nats(row))
	}
	if got, want := pledge.Join(s.group, list...), s.joined(rows...); !areAll(got, want) {
		t.Errorf("P %v: Join(%v): %v, not %v", s.p, rows, allBig(got), want)
	}
}

func TestJoin(t *testing.T) {
	random := rand.New(rand.NewSource(6))
	for _, s := range all() {
		list := s.some(random)
		checkJoin(t, s)
		for count := range 7 {
			for range 4 {
				var rows [][]*big.Int
				for range count {
					rows = append(rows, drawn(list, random.Intn(5), random))
				}
				checkJoin(t, s, rows...)
			}
		}
	}
}

// The longest row may stand anywhere; what is missing is 1, and what is there is in the ring of P, of a single row too.
func TestJoinOfUnlikeMany(t *testing.T) {
	s := example()
	for _, c := range []struct {
		rows [][]*big.Int
		want []*big.Int
	}{
		{[][]*big.Int{bigs(64, 597), bigs(100)}, bigs(64*100%607, 597)},
		{[][]*big.Int{bigs(100), bigs(64, 597)}, bigs(64*100%607, 597)},
		{[][]*big.Int{nil, bigs(100), {}, bigs(64, 597, 2), bigs(3, 5)}, bigs(64*100*3%607, 597*5%607, 2)},
		{[][]*big.Int{bigs(0, 607, 608, 1214, 1300)}, bigs(0, 0, 1, 0, 86)},
		{[][]*big.Int{bigs(0), bigs(5, 6)}, bigs(0, 6)},
		{[][]*big.Int{nil, {}}, nil},
		{[][]*big.Int{{}}, nil},
		{nil, nil},
	} {
		var list [][]nat.Nat
		for _, row := range c.rows {
			list = append(list, nats(row))
		}
		if got := pledge.Join(s.group, list...); !areAll(got, c.want) {
			t.Errorf("Join(%v): %v, not %v", c.rows, allBig(got), c.want)
		}
	}
}

func TestJoinOfMany(t *testing.T) {
	for _, s := range []sample{example(), greats()[1]} {
		rows := make([][]*big.Int, 2*api.MaxPeers)
		for i := range rows {
			for k := range (i * 7) % (api.MaxPeers + 1) {
				rows[i] = append(rows[i], s.exp(s.g, number(int64(i+k*k))))
			}
		}
		checkJoin(t, s, rows...)
	}
}

// P13.1: Members

// Each number of a small group, and of its ring three times round, by itself and behind another one.
func TestMembersOfAll(t *testing.T) {
	s := example()
	count := 0
	for n := range int64(3 * 607) {
		a := fromBig(number(n))
		want := s.isMember(number(n))
		if pledge.Members(s.group, []nat.Nat{a}) != want || pledge.Members(s.group, []nat.Nat{s.group.G(), a}) != want {
			t.Errorf("%d: not %v", n, want)
		}
		if want {
			count++
		}
	}
	if count != 101 {
		t.Errorf("%d members", count)
	}
}

// One that is none is enough, wherever it stands; of none at all there is none that isn't.
func TestMembers(t *testing.T) {
	for _, s := range all() {
		if !pledge.Members(s.group, nil) || !pledge.Members(s.group, []nat.Nat{}) {
			t.Errorf("Q %v: not of none", s.q)
		}
		right := []*big.Int{number(1), s.g, s.h, s.of(number(7), number(8))}
		if !pledge.Members(s.group, nats(right)) {
			t.Errorf("Q %v: not %v", s.q, right)
		}
		for at := range right {
			for _, n := range s.noMembers(right[at]) {
				other := slices.Clone(right)
				other[at] = n
				if pledge.Members(s.group, nats(other)) {
					t.Errorf("Q %v: %v", s.q, other)
				}
			}
		}
	}
}

// P13.1: a nil group

func TestNoGroup(t *testing.T) {
	lists := [][]nat.Nat{nil, {}, nats(bigs(0)), nats(bigs(1)), nats(bigs(0, 0, 0)), nats(bigs(1, 2, 3)), nats(bigs(64, 597))}
	for _, p := range lists {
		for _, m := range lists {
			if pledges, bare, joined := pledge.All(nil, p, m), pledge.Bare(nil, p), pledge.Join(nil, p, m); pledges != nil || bare != nil || joined != nil {
				t.Errorf("%v, %v: All %v, Bare %v, Join %v", allBig(p), allBig(m), allBig(pledges), allBig(bare), allBig(joined))
			}
		}
		if pledge.Members(nil, p) {
			t.Errorf("%v are members", allBig(p))
		}
		for n := range uint64(8) {
			x, value, mask := nat.New(n>>2), nat.New(n>>1&1), nat.New(n&1)
			if a, b := pledge.Of(nil, value, mask), pledge.At(nil, p, x); !isZeroValue(a) || !isZeroValue(b) {
				t.Errorf("Of(%v, %v): %v; At(%v, %v): %v", toBig(value), toBig(mask), toBig(a), allBig(p), toBig(x), toBig(b))
			}
			if pledge.Opens(nil, p, x, value, mask) || pledge.Fits(nil, p, x, value) {
				t.Errorf("%v opened, or fitted, at %v by %v, %v", allBig(p), toBig(x), toBig(value), toBig(mask))
			}
		}
	}
	if joined := pledge.Join(nil); joined != nil {
		t.Errorf("Join(): %v", allBig(joined))
	}
}
