package group_test

import (
	"bytes"
	"math/big"
	"math/rand"
	"reflect"
	"slices"
	"sync"
	"testing"

	"sacristy/api"
	"sacristy/group"
	"sacristy/nat"
)

// P9.2: Member, Mul, Exp, Inv

func TestMember(t *testing.T) {
	for _, s := range littles()[:6] {
		g, count := s.group(t), int64(0)
		for a := range s.p.Int64()*2 + 10 {
			want := s.isMember(number(a))
			if want {
				count++
			}
			if got := g.Member(nat.New(uint64(a))); got != want {
				t.Errorf("P %v, Q %v: Member(%d): %v", s.p, s.q, a, got)
			}
		}
		if count != s.q.Int64() {
			t.Errorf("P %v, Q %v: %d members", s.p, s.q, count)
		}
	}
}

func TestMemberOfGreatGroups(t *testing.T) {
	random := rand.New(rand.NewSource(2))
	for _, s := range all(t) {
		g := s.group(t)
		for _, a := range s.some(random) {
			if got := g.Member(fromBig(a)); got != s.isMember(a) {
				t.Errorf("P %v, Q %v: Member(%v): %v", s.p, s.q, a, got)
			}
			above := new(big.Int).Add(new(big.Int).Mod(a, s.p), s.p)
			if g.Member(fromBig(above)) {
				t.Errorf("P %v, Q %v: Member(%v), above P", s.p, s.q, above)
			}
		}
		if !g.Member(g.G()) || !g.Member(g.H()) {
			t.Errorf("P %v, Q %v: a base is no member", s.p, s.q)
		}
	}
}

func TestMul(t *testing.T) {
	random := rand.New(rand.NewSource(3))
	for _, s := range all(t) {
		g := s.group(t)
		for _, a := range s.some(random) {
			for _, b := range s.some(random) {
				want := new(big.Int).Mul(a, b)
				if got := g.Mul(fromBig(a), fromBig(b)); !is(got, want.Mod(want, s.p)) {
					t.Errorf("P %v: Mul(%v, %v): %v", s.p, a, b, toBig(got))
				}
			}
		}
	}
}

// Of any number, no member's too, the exponent counts whole.
func TestExp(t *testing.T) {
	random := rand.New(rand.NewSource(4))
	for _, s := range all(t) {
		g := s.group(t)
		for _, e := range s.exponents(random) {
			for _, a := range s.some(random) {
				if got := g.Exp(fromBig(a), fromBig(e)); !is(got, s.exp(a, e)) {
					t.Errorf("P %v: Exp(%v, %v): %v", s.p, a, e, toBig(got))
				}
			}
		}
	}
}

func TestInv(t *testing.T) {
	random := rand.New(rand.NewSource(5))
	for _, s := range all(t) {
		g := s.group(t)
		for _, a := range s.some(random) {
			want := new(big.Int).ModInverse(a, s.p)
			if want == nil {
				want = number(0)
			}
			if got := g.Inv(fromBig(a)); !is(got, want) {
				t.Errorf("P %v: Inv(%v): %v", s.p, a, toBig(got))
			}
		}
		for _, a := range []*big.Int{number(0), s.p, new(big.Int).Mul(s.p, s.q)} {
			if got := g.Inv(fromBig(a)); !isZeroValue(got) {
				t.Errorf("P %v: Inv(%v): %v", s.p, a, toBig(got))
			}
		}
	}
}

// P9.2: Multi

func naturals(list []*big.Int) []nat.Nat {
	all := make([]nat.Nat, len(list))
	for i, n := range list {
		all[i] = fromBig(n)
	}
	return all
}

func checkMulti(t *testing.T, s sample, g *group.Group, bases, exps []*big.Int) {
	t.Helper()
	want := number(1)
	for i, base := range bases {
		want.Mul(want, s.exp(base, exps[i])).Mod(want, s.p)
	}
	got, errno := g.Multi(naturals(bases), naturals(exps))
	if errno != api.OK || !is(got, want) {
		t.Errorf("P %v: Multi(%v, %v): %v, error %d, not %v", s.p, bases, exps, toBig(got), errno, want)
	}
}

func TestMulti(t *testing.T) {
	random := rand.New(rand.NewSource(6))
	for _, s := range all(t) {
		g := s.group(t)
		checkMulti(t, s, g, nil, nil)
		bases, exps := s.some(random), s.exponents(random)
		if s.p.BitLen() < 1000 {
			for _, a := range bases {
				for _, e := range exps {
					checkMulti(t, s, g, []*big.Int{a}, []*big.Int{e})
				}
			}
		}
		for count := range 12 {
			for range 3 {
				random.Shuffle(len(bases), func(i, k int) { bases[i], bases[k] = bases[k], bases[i] })
				random.Shuffle(len(exps), func(i, k int) { exps[i], exps[k] = exps[k], exps[i] })
				checkMulti(t, s, g, bases[:count], exps[:count])
			}
		}
	}
}

// A base may be there more than once, and exponents may be of unlike lengths, the longest one anywhere.
func TestMultiOfUnlikeExponents(t *testing.T) {
	s := example()
	g := s.group(t)
	for at := range 5 {
		bases := []*big.Int{number(64), number(2), number(64), number(3), number(606)}
		exps := []*big.Int{number(0), number(1), number(2), number(3), number(4)}
		checkMulti(t, s, g, bases, exps)
		exps[at] = plus(power(500), int64(at))
		checkMulti(t, s, g, bases, exps)
		bases[at] = number(0)
		checkMulti(t, s, g, bases, exps)
		exps[at] = number(0)
		checkMulti(t, s, g, bases, exps)
	}
	many := make([]*big.Int, 1000)
	for i := range many {
		many[i] = number(int64(i * i))
	}
	checkMulti(t, s, g, many[1:], many[:999])
}

func TestMultiOfUnlikeMany(t *testing.T) {
	for _, s := range []sample{example(), great(t)} {
		g, list := s.group(t), numbers(1, 2, 3, 4)
		for i := range 5 {
			for k := range 5 {
				got, errno := g.Multi(list[:i], list[:k])
				if want := api.ErrArg; i != k && (errno != want || !isZeroValue(got)) {
					t.Errorf("%d bases, %d exponents: %v, error %d", i, k, toBig(got), errno)
				}
				if i == k && errno != api.OK {
					t.Errorf("%d of both: error %d", i, errno)
				}
			}
		}
	}
	for _, list := range [][]nat.Nat{nil, {}} {
		for _, other := range [][]nat.Nat{nil, {}} {
			if got, errno := example().group(t).Multi(list, other); errno != api.OK || !is(got, number(1)) {
				t.Errorf("of none: %v, error %d", toBig(got), errno)
			}
		}
	}
}

// P9.2: Bytes, Of

func checkBytes(t *testing.T, s sample, g *group.Group, a *big.Int) {
	t.Helper()
	b, errno := g.Bytes(fromBig(a))
	if !s.isMember(a) {
		if errno != api.ErrForm || b != nil {
			t.Errorf("P %v: Bytes(%v), no member: %x, error %d", s.p, a, b, errno)
		}
		return
	}
	want := a.FillBytes(make([]byte, (s.p.BitLen()+7)/8))
	if errno != api.OK || !bytes.Equal(b, want) {
		t.Errorf("P %v: Bytes(%v): %x, error %d", s.p, a, b, errno)
	}
	if back, errno := g.Of(b); errno != api.OK || !is(back, a) {
		t.Errorf("P %v: Of(%x): %v, error %d", s.p, b, toBig(back), errno)
	}
}

func checkNoneOf(t *testing.T, g *group.Group, b []byte) {
	t.Helper()
	if a, errno := g.Of(b); errno != api.ErrForm || !isZeroValue(a) {
		t.Errorf("P %v: Of(%x): %v, error %d", toBig(g.P()), b, toBig(a), errno)
	}
}

func TestBytes(t *testing.T) {
	random := rand.New(rand.NewSource(7))
	for _, s := range all(t) {
		g := s.group(t)
		for _, a := range append(s.some(random), number(1)) {
			checkBytes(t, s, g, a)
		}
	}
	s := example()
	for a := range int64(2000) {
		checkBytes(t, s, s.group(t), number(a))
	}
}

// All bytes of small sizes: just as many as there are members are of one.
func TestOfAllBytes(t *testing.T) {
	for _, s := range littles()[:5] {
		g, size := s.group(t), (s.p.BitLen()+7)/8
		for n := range 1 << (8 * size) {
			b := number(int64(n)).FillBytes(make([]byte, size))
			if !s.isMember(number(int64(n))) {
				checkNoneOf(t, g, b)
			} else if a, errno := g.Of(b); errno != api.OK || !is(a, number(int64(n))) {
				t.Errorf("P %v: Of(%x): %v, error %d", s.p, b, toBig(a), errno)
			}
		}
	}
}

func TestOfOtherSizes(t *testing.T) {
	for _, s := range all(t) {
		g := s.group(t)
		for _, a := range []*big.Int{number(1), s.g} {
			b, _ := g.Bytes(fromBig(a))
			checkNoneOf(t, g, append([]byte{0}, b...))
			checkNoneOf(t, g, append(slices.Clone(b), 0))
			checkNoneOf(t, g, b[1:])
			checkNoneOf(t, g, b[:len(b)-1])
			checkNoneOf(t, g, slices.Repeat(b, 2))
			checkNoneOf(t, g, append(make([]byte, 200), b...))
			if size := len(a.Bytes()); size < len(b) {
				checkNoneOf(t, g, a.Bytes())
			}
		}
		for _, b := range [][]byte{nil, {}, {1}, s.p.Bytes(), plus(s.p, 1).Bytes(), make([]byte, g.Size()), slices.Repeat([]byte{255}, g.Size())} {
			if s.p.BitLen() > 8 || len(b) != 1 || b[0] != 1 {
				checkNoneOf(t, g, b)
			}
		}
	}
}

// P9.2: Challenge

func checkChallenge(t *testing.T, s sample, g *group.Group, parts ...[]byte) {
	t.Helper()
	if got, want := g.Challenge(parts...), s.challenge(parts...); !is(got, want) {
		t.Errorf("Q %v: Challenge of %d parts: %v, not %v", s.q, len(parts), toBig(got), want)
	}
}

func TestChallenge(t *testing.T) {
	g := example().group(t)
	for _, c := range []struct {
		parts [][]byte
		want  int64
	}{
		{nil, 91},
		{[][]byte{{}}, 7},
		{[][]byte{nil}, 7},
		{[][]byte{[]byte("abc")}, 74},
		{[][]byte{[]byte("a"), []byte("bc")}, 90},
		{[][]byte{nil, {}}, 28},
	} {
		if got := g.Challenge(c.parts...); !is(got, number(c.want)) {
			t.Errorf("Challenge(%q): %v, not %d", c.parts, toBig(got), c.want)
		}
	}
	random := rand.New(rand.NewSource(8))
	for _, s := range all(t) {
		g := s.group(t)
		checkChallenge(t, s, g)
		for _, size := range []int{0, 1, 47, 48, 55, 56, 64, 255, 256, 257, 4096, 65535, 65536, 70000, 1<<24 + 3} {
			if size > 70000 && s.p.Cmp(number(607)) != 0 {
				continue
			}
			part := make([]byte, size)
			random.Read(part)
			checkChallenge(t, s, g, part)
			checkChallenge(t, s, g, part[:size/2], part[size/2:])
			checkChallenge(t, s, g, nil, part[:size/3], nil, part[size/3:], nil)
		}
	}
}

// P9.2: a nil group

func TestNilGroup(t *testing.T) {
	var g *group.Group
	one := nat.New(1)
	for what, a := range map[string]nat.Nat{
		"P": g.P(), "G": g.G(), "H": g.H(), "Mul": g.Mul(one, one), "Exp": g.Exp(one, one), "Exp of 0": g.Exp(one, nat.New(0)),
		"Inv": g.Inv(one), "Challenge": g.Challenge([]byte("a")), "Challenge of none": g.Challenge(),
	} {
		if !isZeroValue(a) {
			t.Errorf("%s: %v", what, toBig(a))
		}
	}
	if g.Field() != nil || g.Size() != 0 || g.Member(one) || g.Member(nat.New(0)) {
		t.Errorf("Field %v, Size %d, Member %v", g.Field(), g.Size(), g.Member(one))
	}
	for _, list := range [][]nat.Nat{nil, {one}} {
		if a, errno := g.Multi(list, []nat.Nat{one}[:len(list)]); errno != api.ErrArg || !isZeroValue(a) {
			t.Errorf("Multi: %v, error %d", toBig(a), errno)
		}
	}
	for _, a := range numbers(0, 1, 64) {
		if b, errno := g.Bytes(a); errno != api.ErrArg || b != nil {
			t.Errorf("Bytes: %x, error %d", b, errno)
		}
	}
	for _, b := range [][]byte{nil, {1}, make([]byte, 200)} {
		if a, errno := g.Of(b); errno != api.ErrArg || !isZeroValue(a) {
			t.Errorf("Of: %v, error %d", toBig(a), errno)
		}
	}
}

// P9.3

func TestMembersTimesMembers(t *testing.T) {
	s := example()
	g := s.group(t)
	var members []nat.Nat
	for a := range uint64(607) {
		if g.Member(nat.New(a)) {
			members = append(members, nat.New(a))
		}
	}
	for _, a := range members {
		if !g.Member(g.Inv(a)) || !is(g.Mul(a, g.Inv(a)), number(1)) || !g.Member(g.Exp(a, a)) {
			t.Errorf("the inverse of %v: %v", toBig(a), toBig(g.Inv(a)))
		}
		for _, b := range members {
			if !g.Member(g.Mul(a, b)) {
				t.Errorf("%v times %v is no member", toBig(a), toBig(b))
			}
		}
		if product, _ := g.Multi(members, members); !g.Member(product) {
			t.Error("the product of all powers is no member")
		}
	}
}

func TestExponentsCountInTheField(t *testing.T) {
	random := rand.New(rand.NewSource(10))
	for _, s := range all(t) {
		g := s.group(t)
		field := g.Field()
		for _, base := range []nat.Nat{g.G(), g.H(), nat.New(1), g.Mul(g.G(), g.H())} {
			x, y := fromBig(new(big.Int).Rand(random, s.q)), fromBig(new(big.Int).Rand(random, power(500)))
			sum := g.Mul(g.Exp(base, x), g.Exp(base, y))
			if !reflect.DeepEqual(g.Exp(base, field.Add(x, y)), sum) || !g.Member(sum) {
				t.Errorf("P %v: the power of a sum", s.p)
			}
			if !reflect.DeepEqual(g.Exp(g.Exp(base, x), y), g.Exp(base, field.Mul(x, y))) {
				t.Errorf("P %v: the power of a power", s.p)
			}
			both, _ := g.Multi([]nat.Nat{base, base}, []nat.Nat{x, y})
			once, _ := g.Multi([]nat.Nat{base}, []nat.Nat{field.Add(x, y)})
			if !reflect.DeepEqual(both, sum) || !reflect.DeepEqual(once, sum) {
				t.Errorf("P %v: the product of both powers", s.p)
			}
		}
	}
}

// ask: all that a group answers of these.
func ask(g *group.Group, a, b nat.Nat, list, exps []nat.Nat, text []byte) []any {
	multi, multiErrno := g.Multi(list, exps)
	text2, textErrno := g.Bytes(a)
	back, backErrno := g.Of(text)
	return []any{
		g.Field().Modulus(), g.P(), g.G(), g.H(), g.Size(), g.Member(a), g.Member(b), g.Mul(a, b), g.Exp(a, b), g.Inv(a),
		multi, multiErrno, text2, textErrno, back, backErrno, g.Challenge(text), g.Challenge(text, nil, text),
	}
}

// given: arguments for all calls, those that are lists with spare room.
func given(s sample) (a, b nat.Nat, list, exps []nat.Nat, text []byte) {
	a, b = fromBig(s.exp(s.g, number(5))), fromBig(plus(power(70), 3))
	list, exps = []nat.Nat{a, b, fromBig(s.g), a, b}[:3], []nat.Nat{b, a, nat.New(7), b, a}[:3]
	text = append(s.g.FillBytes(make([]byte, (s.p.BitLen()+7)/8)), 1, 2, 3)
	return a, b, list, exps, text[:len(text)-3]
}

func TestNothingChanges(t *testing.T) {
	for _, s := range all(t) {
		g := s.group(t)
		a, b, list, exps, text := given(s)
		wantA, wantB, wantList, wantExps, wantText := given(s)
		first := ask(g, a, b, list, exps, text)
		if again := ask(g, a, b, list, exps, text); !reflect.DeepEqual(first, again) {
			t.Errorf("P %v: asked again, the group answers something else", s.p)
		}
		if !reflect.DeepEqual([]nat.Nat{a, b}, []nat.Nat{wantA, wantB}) {
			t.Errorf("P %v: a number has changed", s.p)
		}
		if !reflect.DeepEqual(list[:5], wantList[:5]) || !reflect.DeepEqual(exps[:5], wantExps[:5]) {
			t.Errorf("P %v: a list has changed", s.p)
		}
		if !bytes.Equal(text[:len(text)+3], wantText[:len(text)+3]) {
			t.Errorf("P %v: the bytes have changed", s.p)
		}
	}
}

// What New was handed may change afterwards.
func TestNewKeepsNothing(t *testing.T) {
	for _, s := range []sample{example(), middling(t)} {
		p, chain := s.params(), append(slices.Clone(s.chain), s.chain...)[:len(s.chain)]
		p.Seed = append(slices.Clone(s.seed), 1, 2, 3)[:len(s.seed)]
		seed, steps := slices.Clone(p.Seed[:len(s.seed)+3]), slices.Clone(chain[:2*len(chain)])
		g, errno := group.New(p, chain)
		if errno != api.OK {
			t.Fatal(errno)
		}
		if !bytes.Equal(p.Seed[:len(seed)], seed) || !reflect.DeepEqual(chain[:len(steps)], steps) {
			t.Errorf("P %v: what was handed in has changed", s.p)
		}
		a, b, list, exps, text := given(s)
		first := ask(g, a, b, list, exps, text)
		clear(p.Seed)
		clear(chain)
		if !reflect.DeepEqual(ask(g, a, b, list, exps, text), first) {
			t.Errorf("P %v: the group has changed with what New was handed", s.p)
		}
	}
}

// where: the memory in which a number's words stand.
func where(a nat.Nat) uintptr { return reflect.ValueOf(a).Field(0).Pointer() }

func TestAnswersAreNewMemory(t *testing.T) {
	for _, s := range []sample{example(), great(t)} {
		p := s.params()
		g, _ := group.New(p, s.chain)
		if g.Field() == g.Field() {
			t.Error("one field twice")
		}
		text, _ := g.Bytes(p.G)
		list, exps := []nat.Nat{p.G, p.G}, numbers(1, 0)
		seen := map[uintptr]string{where(p.P): "P handed in", where(p.Q): "Q handed in", where(p.G): "G handed in", where(exps[0]): "1"}
		for range 2 {
			multi, _ := g.Multi(list, exps)
			none, _ := g.Multi(nil, nil)
			back, _ := g.Of(text)
			for i, a := range []nat.Nat{
				g.P(), g.G(), g.H(), g.Mul(p.G, exps[0]), g.Exp(p.G, exps[0]), g.Inv(exps[0]), multi, none, back, g.Challenge(text), g.Field().Modulus(),
			} {
				if other, ok := seen[where(a)]; ok {
					t.Errorf("answer %d shares memory with %s", i, other)
				}
				seen[where(a)] = "an answer"
			}
		}
		clear(text[:cap(text)])
		if again, _ := g.Bytes(p.G); !bytes.Equal(again, s.g.FillBytes(make([]byte, g.Size()))) {
			t.Error("spoilt bytes come again")
		}
	}
}

func TestGroupsApart(t *testing.T) {
	samples := all(t)
	groups := make([]*group.Group, len(samples))
	answers := make([][]any, len(samples))
	for i, s := range samples {
		groups[i] = s.group(t)
		a, b, list, exps, text := given(s)
		answers[i] = ask(groups[i], a, b, list, exps, text)
	}
	var together sync.WaitGroup
	for range 4 {
		for i, s := range samples {
			together.Go(func() {
				a, b, list, exps, text := given(s)
				if !reflect.DeepEqual(ask(groups[i], a, b, list, exps, text), answers[i]) {
					t.Errorf("P %v: another answer beside other calls", s.p)
				}
			})
		}
	}
	together.Wait()
}
