package pledge_test

import (
	"math/big"
	"math/rand"
	"reflect"
	"slices"
	"sync"
	"testing"

	"sacristy/api"
	"sacristy/curve"
	"sacristy/group"
	"sacristy/nat"
	"sacristy/pledge"
)

// P13.2

// checkBound: a polynomial's pledges are opened at a place by its value and its masks' value, and by no other; bare ones are fitted by its value, and by no other.
func checkBound(t *testing.T, s sample, p, m []nat.Nat, x nat.Nat) {
	t.Helper()
	f, one := s.group.Field(), nat.New(1)
	value, mask := curve.Eval(f, p, x), curve.Eval(f, m, x)
	pledges, bare := pledge.All(s.group, p, m), pledge.Bare(s.group, p)
	if !pledge.Members(s.group, pledges) || !pledge.Members(s.group, bare) {
		t.Errorf("Q %v: the pledges of %v, %v are no members", s.q, allBig(p), allBig(m))
	}
	if !pledge.Opens(s.group, pledges, x, value, mask) || !pledge.Fits(s.group, bare, x, value) {
		t.Errorf("Q %v: %v, %v: not opened, or not fitted, at %v", s.q, allBig(p), allBig(m), toBig(x))
	}
	if pledge.Opens(s.group, pledges, x, f.Add(value, one), mask) || pledge.Opens(s.group, pledges, x, value, f.Add(mask, one)) || pledge.Fits(s.group, bare, x, f.Add(value, one)) {
		t.Errorf("Q %v: %v, %v: opened, or fitted, at %v by others", s.q, allBig(p), allBig(m), toBig(x))
	}
}

func TestBound(t *testing.T) {
	random := rand.New(rand.NewSource(11))
	for _, s := range littles() {
		for count := range 6 {
			p, m := nats(drawn(s.exponents(random), count, random)), nats(drawn(s.exponents(random), 5-count, random))
			for _, x := range s.places(random) {
				checkBound(t, s, p, m, fromBig(x))
			}
		}
	}
	for _, s := range greats() {
		for i, x := range s.places(random) {
			checkBound(t, s, nats(drawn(s.exponents(random), i%4, random)), nats(drawn(s.exponents(random), 3, random)), fromBig(x))
		}
	}
}

// All places of a small field, and once round more.
func TestBoundEverywhere(t *testing.T) {
	random := rand.New(rand.NewSource(12))
	s := example()
	for x := range uint64(210) {
		checkBound(t, s, nats(drawn(s.exponents(random), 4, random)), nats(drawn(s.exponents(random), 4, random)), nat.New(x))
	}
}

func TestBoundOfMany(t *testing.T) {
	random := rand.New(rand.NewSource(13))
	for _, s := range []sample{example(), greats()[0]} {
		p, m := make([]nat.Nat, api.MaxPeers), make([]nat.Nat, api.MaxPeers)
		for i := range p {
			p[i], m[i] = fromBig(new(big.Int).Rand(random, s.q)), fromBig(new(big.Int).Rand(random, s.q))
		}
		for _, x := range []uint64{0, 1, api.MaxPeers} {
			checkBound(t, s, p, m, nat.New(x))
		}
	}
}

// Joined pledges are those of the sums, bare ones too.
func TestJoinedAreThoseOfSums(t *testing.T) {
	random := rand.New(rand.NewSource(14))
	for _, s := range all() {
		list := s.exponents(random)
		for count := range 4 {
			var p, m []*big.Int
			var rows, bares [][]nat.Nat
			for range count {
				more, masks := drawn(list, random.Intn(4), random), drawn(list, random.Intn(4), random)
				rows = append(rows, pledge.All(s.group, nats(more), nats(masks)))
				bares = append(bares, pledge.Bare(s.group, nats(more)))
				p, m = s.sumOf(p, more), s.sumOf(m, masks)
			}
			if got, want := pledge.Join(s.group, rows...), pledge.All(s.group, nats(p), nats(m)); !reflect.DeepEqual(allBig(got), allBig(want)) {
				t.Errorf("Q %v: joined %v, those of the sums %v", s.q, allBig(got), allBig(want))
			}
			if got, want := pledge.Join(s.group, bares...), pledge.Bare(s.group, nats(p)); !reflect.DeepEqual(allBig(got), allBig(want)) {
				t.Errorf("Q %v: bare ones joined %v, those of the sums %v", s.q, allBig(got), allBig(want))
			}
			for _, x := range nats(bigs(0, 2, 64)) {
				f := s.group.Field()
				if !pledge.Opens(s.group, pledge.Join(s.group, rows...), x, curve.Eval(f, nats(p), x), curve.Eval(f, nats(m), x)) {
					t.Errorf("Q %v: joined ones aren't opened at %v by the sums' values", s.q, toBig(x))
				}
			}
		}
	}
}

// checkHidden: with another value the mask that the chapter tells makes the same pledge, H being G w times; the mask next to it doesn't.
func checkHidden(t *testing.T, s sample, w, value, mask, other *big.Int) {
	t.Helper()
	more := new(big.Int).Sub(other, value)
	masks := s.within(new(big.Int).Sub(mask, more.Mul(more, new(big.Int).ModInverse(w, s.q))))
	first := pledge.Of(s.group, fromBig(value), fromBig(mask))
	if second := pledge.Of(s.group, fromBig(other), fromBig(masks)); first.Cmp(second) != 0 {
		t.Errorf("Q %v, w %v: Of(%v, %v): %v, Of(%v, %v): %v", s.q, w, value, mask, toBig(first), other, masks, toBig(second))
	}
	if second := pledge.Of(s.group, fromBig(other), fromBig(plus(masks, 1))); first.Cmp(second) == 0 {
		t.Errorf("Q %v, w %v: Of(%v, %v) is Of(%v, %v) too", s.q, w, value, mask, other, plus(masks, 1))
	}
}

// Each w of a small group, and of each value and mask some others.
func TestHiddenInSmallGroups(t *testing.T) {
	for w := int64(1); w < 101; w++ {
		s := example().based(number(w))
		if !is(s.group.H(), s.exp(s.g, number(w))) {
			t.Fatalf("H isn't G %d times", w)
		}
		for n := range int64(101) {
			checkHidden(t, s, number(w), number(n), number(n*w%101), number((n*n+3)%101))
			checkHidden(t, s, number(w), number(n), number(0), number(0))
		}
	}
}

// A pledge could be of each value: what all masks make of one value is what they make of any other one.
func TestAllPledgesOfEachValue(t *testing.T) {
	s := example()
	for value := range uint64(101) {
		seen := map[string]bool{}
		for mask := range uint64(101) {
			seen[toBig(pledge.Of(s.group, nat.New(value), nat.New(mask))).String()] = true
		}
		if len(seen) != 101 {
			t.Errorf("%d pledges of %d", len(seen), value)
		}
	}
}

func TestHiddenInGreatGroups(t *testing.T) {
	random := rand.New(rand.NewSource(15))
	for _, great := range greats() {
		some := func() *big.Int { return new(big.Int).Rand(random, great.q) }
		for _, w := range []*big.Int{number(1), number(2), plus(great.q, -1), plus(some(), 1)} {
			s := great.based(w)
			for _, c := range [][3]*big.Int{{number(0), number(0), number(1)}, {some(), some(), some()}, {some(), number(0), number(0)}, {plus(s.q, -1), plus(s.q, -1), some()}} {
				checkHidden(t, s, w, c[0], c[1], c[2])
			}
		}
	}
}

// spacious: a list with room behind it, in which something stands.
func spacious(list []*big.Int) []nat.Nat {
	return nats(append(slices.Clone(list), bigs(11, 12, 13, 14, 15, 16, 17, 18)...))[:len(list)]
}

// answers: what all calls tell of these.
func answers(g *group.Group, p, m, c []nat.Nat, x nat.Nat) (rows [][]nat.Nat, values []nat.Nat, words []bool) {
	rows = [][]nat.Nat{
		pledge.All(g, p, m), pledge.All(g, p, nil), pledge.All(g, nil, m), pledge.Bare(g, p), pledge.Join(g, c), pledge.Join(g, c, c), pledge.Join(g, nil, c[:1], c),
	}
	values = []nat.Nat{pledge.Of(g, p[0], m[0]), pledge.Of(g, p[0], nat.Nat{}), pledge.At(g, c, x), pledge.At(g, c[:1], x), pledge.At(g, nil, x)}
	return rows, values, []bool{pledge.Opens(g, c, x, p[0], m[0]), pledge.Fits(g, c, x, p[0]), pledge.Members(g, c)}
}

// Neither the numbers change nor the lists, nor the room behind them, nor the list of rows; and the same is answered again, whatever was done to the first answer.
func TestNothingChanges(t *testing.T) {
	for _, s := range []sample{example(), greats()[0]} {
		list, masks, pledges := []*big.Int{number(5), plus(s.q, 2), number(7)}, bigs(1, 2), []*big.Int{s.g, s.h, sum(s.p, s.g)}
		p, m, c, x := spacious(list), spacious(masks), spacious(pledges), fromBig(plus(s.q, 3))
		first, values, words := answers(s.group, p, m, c, x)
		again, _, _ := answers(s.group, p, m, c, x)
		for _, row := range first {
			clear(row[:cap(row)])
		}
		third, later, wordsLater := answers(s.group, p, m, c, x)
		if !reflect.DeepEqual(again, third) || !reflect.DeepEqual(values, later) || !reflect.DeepEqual(words, wordsLater) {
			t.Errorf("Q %v: asked again, something else is answered", s.q)
		}
		for i, l := range [][2][]nat.Nat{{p, spacious(list)}, {m, spacious(masks)}, {c, spacious(pledges)}} {
			if !reflect.DeepEqual(l[0][:10], l[1][:10]) {
				t.Errorf("Q %v: list %d has changed", s.q, i)
			}
		}
		rows := [][]nat.Nat{c[:1], c, c[1:]}[:2]
		pledge.Join(s.group, rows...)
		if rows = rows[:3]; !is(x, plus(s.q, 3)) || len(rows[0]) != 1 || len(rows[1]) != 3 || len(rows[2]) != 2 {
			t.Errorf("Q %v: the place, or the list of rows, has changed", s.q)
		}
	}
}

func TestAnswersAreNewMemory(t *testing.T) {
	for _, s := range []sample{example(), greats()[0]} {
		p, m, c, x := nats(bigs(1, 6, 7)), nats(bigs(0, 3)), []nat.Nat{s.group.G(), s.group.H(), nat.New(1)}, nat.New(9)
		seen := map[uintptr]bool{where(x): true}
		for _, a := range slices.Concat(p, m[1:], c) {
			seen[where(a)] = true
		}
		for range 2 {
			rows, values, _ := answers(s.group, p, m, c, x)
			for i, a := range append(slices.Concat(rows...), values...) {
				if seen[where(a)] {
					t.Errorf("Q %v: number %d of the answers shares memory", s.q, i)
				}
				seen[where(a)] = true
			}
		}
	}
}

// One group serves many at once.
func TestManyAtOnce(t *testing.T) {
	s := greats()[0]
	p, m, c, x := nats(bigs(5, 6, 7)), nats(bigs(1, 2)), []nat.Nat{s.group.G(), s.group.H()}, nat.New(9)
	want, values, words := answers(s.group, p, m, c, x)
	var wait sync.WaitGroup
	for range 8 {
		wait.Go(func() {
			rows, more, told := answers(s.group, p, m, c, x)
			if !reflect.DeepEqual(rows, want) || !reflect.DeepEqual(more, values) || !reflect.DeepEqual(told, words) {
				t.Error("another answer")
			}
		})
	}
	wait.Wait()
}
