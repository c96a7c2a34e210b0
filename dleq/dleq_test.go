package dleq_test

import (
	"bytes"
	"encoding/hex"
	"math/big"
	"math/rand"
	"slices"
	"sync"
	"testing"

	"sacristy/api"
	"sacristy/dleq"
	"sacristy/nat"
	"sacristy/sign"
)

// What another writing of the chapter, in another language, told.
func TestExamples(t *testing.T) {
	long := make([]byte, 200)
	for i := range long {
		long[i] = byte(i)
	}
	other := sample{p: number(719), q: number(359), g: number(4)}
	for _, c := range []struct {
		of         sample
		a, b, x    int64
		side       string
		y, z       int64
		wantsProof string
	}{
		{example(), 64, 100, 5, "side", 100, 352, "282e"},
		{example(), 64, 100, 0, "side", 1, 1, "2502"},
		{example(), 64, 100, 0, "", 1, 1, "3137"},
		{example(), 100, 64, 1, "", 100, 64, "3c1d"},
		{example(), 527, 527, 100, "side", 478, 478, "2560"},
		{example(), 1, 100, 42, string(long), 1, 498, "0c1e"},
		{example(), 64, 1, 42, string(long), 339, 1, "4952"},
		{example(), 1, 1, 7, "", 1, 1, "3601"},
		{example(), 64, 597, 5, "side", 100, 155, "4753"},
		{other, 4, 566, 5, "side", 305, 189, "00d300fd"},
		{other, 4, 566, 0, "side", 1, 1, "01000141"},
		{other, 4, 566, 0, "", 1, 1, "00cd00aa"},
		{other, 566, 4, 1, "", 566, 4, "00c10153"},
		{other, 64, 64, 100, "side", 642, 642, "00ee0017"},
		{other, 1, 566, 42, string(long), 1, 96, "00a600b7"},
		{other, 4, 1, 42, string(long), 562, 1, "011e009c"},
		{other, 1, 1, 7, "", 1, 1, "000e004c"},
	} {
		g, want := c.of.group(t), claim{number(c.a), number(c.b), number(c.y), number(c.z)}
		told, proof, errno := dleq.Prove(g, fromBig(want[0]), fromBig(want[1]), fromBig(number(c.x)), []byte(c.side))
		if errno != api.OK || !want.is(told) || hex.EncodeToString(proof) != c.wantsProof {
			t.Errorf("Q %v: Prove(%d, %d, %d, %q): %v, %x, error %d", c.of.q, c.a, c.b, c.x, c.side, told, proof, errno)
		}
		if !dleq.Verify(g, told, []byte(c.side), proof) {
			t.Errorf("Q %v: %x doesn't verify for %v and %q", c.of.q, proof, told, c.side)
		}
	}
	if c := dleq.Answer(example().group(t), claim{number(64), number(454), number(64), number(1)}.ours(), nat.New(1), nat.New(527), []byte("side")); !is(c, number(12)) {
		t.Errorf("%v, not 12", toBig(c))
	}
	if c := dleq.Answer(other.group(t), claim{number(4), number(16), number(64), number(256)}.ours(), nat.New(1), nat.New(305), nil); !is(c, number(131)) {
		t.Errorf("%v, not 131", toBig(c))
	}
}

// P12.1: Prove

func checkProve(t *testing.T, s sample, a, b, x *big.Int, side []byte) {
	t.Helper()
	g := s.group(t)
	told, proof, errno := dleq.Prove(g, fromBig(a), fromBig(b), fromBig(x), side)
	if c, want := s.proved(t, a, b, x, side); errno != api.OK || !c.is(told) || !bytes.Equal(proof, want) {
		t.Errorf("Q %v: Prove(%v, %v, %v, %d bytes): %v, %x, error %d, not %v, %x", s.q, a, b, x, len(side), told, proof, errno, c, want)
	}
	if !dleq.Verify(g, told, side, proof) {
		t.Errorf("Q %v: what is proved of %v, %v, %v, %d bytes doesn't verify", s.q, a, b, x, len(side))
	}
}

func TestProve(t *testing.T) {
	random := rand.New(rand.NewSource(1))
	for _, s := range littles() {
		for _, base := range s.bases(t, random) {
			for i, x := range s.exponents(random) {
				checkProve(t, s, base[0], base[1], x, sides(random)[i])
			}
		}
		for _, side := range sides(random) {
			checkProve(t, s, s.g, s.exp(s.g, number(9)), number(5), side)
		}
	}
	for _, s := range greats() {
		xs, list := s.exponents(random), sides(random)
		for i, base := range s.bases(t, random) {
			checkProve(t, s, base[0], base[1], xs[i], list[2*i])
		}
	}
}

func TestProveOfAll(t *testing.T) {
	s := example()
	for n := range int64(101 * 101) {
		a, b := s.exp(s.g, number(n/101)), s.exp(s.g, number(n%101))
		checkProve(t, s, a, b, number(n*7%101), []byte{byte(n), byte(n >> 8)})
	}
}

// With x = 0 the claim's Y and Z are 1.
func TestProveOfNothing(t *testing.T) {
	for _, s := range all() {
		g := s.group(t)
		c, proof, errno := dleq.Prove(g, g.G(), g.H(), nat.Nat{}, nil)
		if errno != api.OK || !is(c.Y, number(1)) || !is(c.Z, number(1)) || !dleq.Verify(g, c, nil, proof) {
			t.Errorf("Q %v: %v, %x, error %d", s.q, c, proof, errno)
		}
	}
}

// Of a draw that is 0 in the field, 1 is taken: with 0 the answer would tell x.
func TestProveWithTheDrawOfNothing(t *testing.T) {
	for _, s := range littles()[:4] {
		found := 0
		for i := 0; found < 5; i++ {
			a, b := s.g, s.exp(s.g, number(int64(i%7)))
			x, side := number(int64(i)%s.q.Int64()), []byte{byte(i), byte(i >> 8)}
			if s.expanded(t, a, b, x, side).Sign() == 0 {
				checkProve(t, s, a, b, x, side)
				found++
			}
		}
	}
}

func checkNotProved(t *testing.T, s sample, a, b, x *big.Int) {
	t.Helper()
	for _, side := range [][]byte{nil, []byte("side")} {
		c, proof, errno := dleq.Prove(s.group(t), fromBig(a), fromBig(b), fromBig(x), side)
		if errno != api.ErrArg || !isZeroValue(c) || proof != nil {
			t.Errorf("Q %v: Prove(%v, %v, %v): %v, %x, error %d", s.q, a, b, x, c, proof, errno)
		}
	}
}

func TestProveOfWrongArguments(t *testing.T) {
	for _, s := range all() {
		a, b, x := s.g, s.exp(s.g, number(9)), number(5)
		for _, other := range s.noExponents() {
			checkNotProved(t, s, a, b, other)
			checkNotProved(t, s, number(0), b, other)
			checkNotProved(t, s, number(1), number(1), other)
		}
		for _, other := range s.noMembers(a) {
			checkNotProved(t, s, other, b, x)
			checkNotProved(t, s, b, other, x)
			checkNotProved(t, s, other, other, number(0))
		}
	}
}

func TestProveOfNoGroup(t *testing.T) {
	for _, side := range [][]byte{nil, []byte("side")} {
		for n := range uint64(8) {
			a, b, x := nat.New(n&1), nat.New(n>>1&1), nat.New(n>>2)
			c, proof, errno := dleq.Prove(nil, a, b, x, side)
			if errno != api.ErrArg || !isZeroValue(c) || proof != nil {
				t.Errorf("of no group: Prove(%v, %v, %v): %v, %x, error %d", a, b, x, c, proof, errno)
			}
		}
	}
}

// In a small group there are all numbers to ask for.
func TestProveOfMembersAlone(t *testing.T) {
	s := example()
	g, members := s.group(t), 0
	for n := range int64(1300) {
		want := api.ErrArg
		if s.isMember(number(n)) {
			want = api.OK
			members++
		}
		_, _, first := dleq.Prove(g, nat.New(uint64(n)), nat.New(64), nat.New(3), nil)
		_, _, second := dleq.Prove(g, nat.New(64), nat.New(uint64(n)), nat.New(3), nil)
		if first != want || second != want {
			t.Errorf("%d: errors %d, %d", n, first, second)
		}
	}
	for x := range uint64(210) {
		if _, _, errno := dleq.Prove(g, nat.New(64), nat.New(64), nat.New(x), nil); (errno == api.OK) != (x < 101) {
			t.Errorf("x %d: error %d", x, errno)
		}
	}
	if members != 101 {
		t.Errorf("%d members", members)
	}
}

// P12.1: Verify

func checkVerify(t *testing.T, s sample, c claim, side, proof []byte) bool {
	t.Helper()
	got := dleq.Verify(s.group(t), c.ours(), side, proof)
	if got != s.verifies(c, side, proof) {
		t.Errorf("P %v, Q %v: Verify(%v, %q, %x): %v", s.p, s.q, c, side, proof, got)
	}
	return got
}

// All bytes that are as many as a proof's, numbers that aren't below Q among them.
func TestVerifyOfAllBytes(t *testing.T) {
	s, side, count := example(), []byte("side"), 0
	c := s.holding(s.g, s.exp(s.g, number(7)), number(5))
	for n := range 1 << 16 {
		if checkVerify(t, s, c, side, []byte{byte(n >> 8), byte(n)}) {
			count++
		}
	}
	if count < 50 || count > 200 {
		t.Errorf("%d proofs of one claim", count)
	}
}

// Each of the four numbers, from 0 to a bit above P.
func TestVerifyOfAllMembers(t *testing.T) {
	s, side, count := example(), []byte("all"), 0
	c := s.holding(s.g, s.exp(s.g, number(7)), number(5))
	for at := range c {
		for n := range int64(700) {
			for answer := range int64(101) {
				if challenge := (n*7 + answer) % 101; checkVerify(t, s, c.with(at, number(n)), side, s.proof(number(challenge), number(answer))) {
					count++
				}
			}
		}
	}
	if count < 100 {
		t.Errorf("%d proofs", count)
	}
}

// What would verify if nobody asked whether all four are members: for each number that is none there are such bytes.
func TestVerifyOfNoMember(t *testing.T) {
	s, side := example(), []byte("side")
	g, c := s.group(t), s.holding(s.g, s.exp(s.g, number(7)), number(5))
	for at := range c {
		for _, n := range []int64{2, 3, 606, 607 - 64, 607 + 64, 608, 607*2 + 1} {
			other, count := c.with(at, number(n)), 0
			for m := range int64(101 * 101) {
				challenge, answer := number(m/101), number(m%101)
				if s.wants(other, side, challenge, answer).Cmp(challenge) != 0 {
					continue
				}
				count++
				if dleq.Verify(g, other.ours(), side, s.proof(challenge, answer)) {
					t.Errorf("%v, %v verifies for %v, of which %d is no member", challenge, answer, other, n)
				}
			}
			if count == 0 {
				t.Errorf("nothing was asked of %v", other)
			}
		}
	}
	for _, s := range all() {
		g := s.group(t)
		right, proof := s.proved(t, s.g, s.exp(s.g, number(7)), number(5), side)
		for at := range right {
			for _, n := range s.noMembers(right[at]) {
				if other := right.with(at, n).ours(); dleq.Verify(g, other, side, proof) || dleq.Verify(g, other, side, make([]byte, len(proof))) {
					t.Errorf("Q %v: verifies with %v, which is no member", s.q, n)
				}
			}
		}
		if dleq.Verify(g, dleq.Claim{}, side, proof) {
			t.Errorf("Q %v: a claim of noughts verifies", s.q)
		}
	}
}

// Either number is the same one in the field when Q is added, and yet it isn't one of a proof.
func TestVerifyOfNumbersAboveQ(t *testing.T) {
	random := rand.New(rand.NewSource(2))
	for _, s := range all() {
		g, room := s.group(t), power(uint(8*lengthOf(s.q)))
		asked := 0
		for i, x := range slices.Repeat(s.exponents(random)[:4], 6) {
			side := []byte{byte(i)}
			c, proof := s.proved(t, s.g, s.exp(s.g, number(7)), x, side)
			challenge, answer := s.parts(proof)
			for _, pair := range [][2]*big.Int{{sum(challenge, s.q), answer}, {challenge, sum(answer, s.q)}} {
				if pair[0].Cmp(room) >= 0 || pair[1].Cmp(room) >= 0 {
					continue
				}
				asked++
				if dleq.Verify(g, c.ours(), side, s.proof(pair[0], pair[1])) {
					t.Errorf("Q %v: %v verifies", s.q, pair)
				}
			}
		}
		if room.Cmp(sum(s.q, s.q)) > 0 && asked == 0 {
			t.Errorf("Q %v: nothing was asked", s.q)
		}
	}
}

func TestVerifyOfOtherLengths(t *testing.T) {
	for _, s := range all() {
		g, side := s.group(t), []byte("side")
		right, proof := s.proved(t, s.g, s.exp(s.g, number(7)), number(5), side)
		c, size := right.ours(), len(proof)/2
		if len(proof) != sign.Size(g) || !dleq.Verify(g, c, side, proof) {
			t.Errorf("Q %v: %x doesn't verify", s.q, proof)
		}
		for _, other := range [][]byte{
			nil, {}, proof[:1], proof[1:], proof[:len(proof)-1], proof[:size], proof[size:], append([]byte{0}, proof...), append(slices.Clone(proof), 0),
			slices.Concat([]byte{0}, proof[:size], []byte{0}, proof[size:]), slices.Repeat(proof, 2), append(slices.Clone(proof), make([]byte, 70_000)...),
		} {
			if dleq.Verify(g, c, side, other) {
				t.Errorf("Q %v: %d bytes verify", s.q, len(other))
			}
		}
		if s.q.BitLen() > 100 && dleq.Verify(g, c, side, slices.Concat(proof[size:], proof[:size])) {
			t.Errorf("Q %v: the answer verifies ahead of the challenge", s.q)
		}
	}
}

// Another claim, another side, another bit of the proof.
func TestVerifyOfOthers(t *testing.T) {
	random := rand.New(rand.NewSource(3))
	for _, s := range greats() {
		g, side := s.group(t), []byte("a side")
		right, proof := s.proved(t, s.g, s.exp(s.g, number(7)), number(5), side)
		c := right.ours()
		if !dleq.Verify(g, c, side, proof) {
			t.Errorf("Q %v: %x doesn't verify", s.q, proof)
		}
		for at := range right {
			for _, n := range []*big.Int{number(1), s.exp(s.g, number(3)), s.exp(right[at], plus(s.q, -1))} {
				if dleq.Verify(g, right.with(at, n).ours(), side, proof) {
					t.Errorf("Q %v: verifies with %v at %d", s.q, n, at)
				}
			}
		}
		swapped := claim{right[1], right[0], right[3], right[2]}
		if dleq.Verify(g, swapped.ours(), side, proof) {
			t.Errorf("Q %v: verifies with both bases swapped", s.q)
		}
		for i := range side {
			if dleq.Verify(g, c, changed(side, i, 1), proof) || dleq.Verify(g, c, side[:i], proof) {
				t.Errorf("Q %v: verifies with another side", s.q)
			}
		}
		if dleq.Verify(g, c, append(side, 0), proof) || dleq.Verify(g, c, nil, proof) {
			t.Errorf("Q %v: verifies with another side", s.q)
		}
		for i := range proof {
			if dleq.Verify(g, c, side, changed(proof, i, 1<<random.Intn(8))) {
				t.Errorf("Q %v: verifies with another byte %d", s.q, i)
			}
		}
	}
}

func TestVerifyOfNoGroup(t *testing.T) {
	for _, c := range []dleq.Claim{{}, claim{number(1), number(1), number(1), number(1)}.ours(), claim{number(64), number(100), number(100), number(352)}.ours()} {
		for _, proof := range [][]byte{nil, {}, {0}, {0, 0}, {0x28, 0x2e}} {
			if dleq.Verify(nil, c, nil, proof) || dleq.Verify(nil, c, []byte("side"), proof) {
				t.Errorf("of no group: Verify(%v, %x)", c, proof)
			}
		}
	}
}

// P12.1: Answer

func checkAnswer(t *testing.T, s sample, c claim, u, v *big.Int, side []byte) {
	t.Helper()
	want := s.challenge(c, u, v, side)
	if got := dleq.Answer(s.group(t), c.ours(), fromBig(u), fromBig(v), side); !is(got, want) {
		t.Errorf("Q %v: Answer(%v, %v, %v, %d bytes): %v, not %v", s.q, c, u, v, len(side), toBig(got), want)
	}
}

// Any six members have an answer, whether the claim is true or not.
func TestAnswer(t *testing.T) {
	random := rand.New(rand.NewSource(4))
	for _, s := range all() {
		for _, side := range sides(random) {
			var m [6]*big.Int
			for i := range m {
				m[i] = s.exp(s.g, new(big.Int).Rand(random, s.q))
			}
			checkAnswer(t, s, claim(m[:4]), m[4], m[5], side)
			checkAnswer(t, s, s.holding(m[0], m[1], number(3)), m[4], number(1), side)
		}
		checkAnswer(t, s, claim{number(1), number(1), number(1), number(1)}, number(1), number(1), nil)
	}
}

// Where one of the six is no member it is 0, and where all are members it hardly ever is.
func TestAnswerOfNoMember(t *testing.T) {
	for _, s := range all() {
		g, six := s.group(t), make([]*big.Int, 6)
		for i := range six {
			six[i] = s.exp(s.g, number(int64(i)+3))
		}
		side := []byte{0}
		for s.challenge(claim(six[:4]), six[4], six[5], side).Sign() == 0 {
			side[0]++
		}
		checkAnswer(t, s, claim(six[:4]), six[4], six[5], side)
		for at := range six {
			for _, n := range s.noMembers(six[at]) {
				other := slices.Clone(six)
				other[at] = n
				if got := dleq.Answer(g, claim(other[:4]).ours(), fromBig(other[4]), fromBig(other[5]), side); !isZeroValue(got) {
					t.Errorf("Q %v: %v with %v at %d, which is no member", s.q, toBig(got), n, at)
				}
			}
		}
	}
	if got := dleq.Answer(example().group(t), dleq.Claim{}, nat.Nat{}, nat.Nat{}, nil); !isZeroValue(got) {
		t.Errorf("of noughts: %v", toBig(got))
	}
}

func TestAnswerOfNoGroup(t *testing.T) {
	for n := range int64(3) {
		c := claim{number(n), number(n), number(n), number(n)}
		if got := dleq.Answer(nil, c.ours(), nat.New(uint64(n)), nat.New(uint64(n)), []byte("side")); !isZeroValue(got) {
			t.Errorf("of no group, and %ds: %v", n, toBig(got))
		}
	}
}

// P12.2

// between: a claim of bases that are the base k times and l times, the first with x, the second with y.
func (s sample) between(k, l, x, y *big.Int) claim {
	a, b := s.exp(s.g, k), s.exp(s.g, l)
	return claim{a, b, s.exp(a, x), s.exp(b, y)}
}

// All draws p and r, in a small group, with the only challenge for which one answer is right for both.
func TestUnlikeExponents(t *testing.T) {
	s, side := example(), []byte("unlike")
	g := s.group(t)
	for _, e := range [][4]int64{{1, 7, 5, 6}, {1, 7, 0, 100}, {100, 100, 42, 3}, {33, 2, 1, 0}} {
		x, y, count := number(e[2]), number(e[3]), 0
		c := s.between(number(e[0]), number(e[1]), x, y)
		part := new(big.Int).ModInverse(s.within(new(big.Int).Sub(y, x)), s.q)
		for n := range int64(101 * 101) {
			p, r := number(n/101), number(n%101)
			u, v := s.exp(c[0], p), s.exp(c[1], r)
			one := s.within(new(big.Int).Mul(new(big.Int).Sub(p, r), part))
			answer := s.answer(p, one, x)
			if answer.Cmp(s.answer(r, one, y)) != 0 {
				t.Fatalf("%v isn't right for both", one)
			}
			want := is(dleq.Answer(g, c.ours(), fromBig(u), fromBig(v), side), one)
			if got := dleq.Verify(g, c.ours(), side, s.proof(one, answer)); got != want {
				t.Errorf("%v: p %v, r %v, c %v: %v", e, p, r, one, got)
			}
			if want {
				count++
			}
		}
		// Each challenge is met by about one of 101 draws.
		if count < 50 || count > 200 {
			t.Errorf("%v: %d answers verify", e, count)
		}
	}
}

// Where both exponents are one, each draw that is the same for both has an answer, and no other draws have one.
func TestOneExponent(t *testing.T) {
	s, side := example(), []byte("one")
	g := s.group(t)
	for _, e := range [][3]int64{{1, 7, 5}, {100, 3, 0}, {2, 2, 100}} {
		x, count := number(e[2]), 0
		c := s.between(number(e[0]), number(e[1]), x, x)
		for n := range int64(101 * 101) {
			k, challenge := number(n/101), number(n%101)
			want := is(dleq.Answer(g, c.ours(), fromBig(s.exp(c[0], k)), fromBig(s.exp(c[1], k)), side), challenge)
			if got := dleq.Verify(g, c.ours(), side, s.proof(challenge, s.answer(k, challenge, x))); got != want {
				t.Errorf("%v: k %v, c %v: %v", e, k, challenge, got)
			}
			if want {
				count++
			}
		}
		if count != 101 {
			t.Errorf("%v: %d answers verify", e, count)
		}
	}
}

// Who draws the same for both, or unlike ones, and answers for one of them alone.
func TestAnswersOfGreatGroups(t *testing.T) {
	random := rand.New(rand.NewSource(5))
	for _, s := range greats() {
		g, side := s.group(t), []byte("great")
		some := func() *big.Int { return plus(new(big.Int).Rand(random, plus(s.q, -2)), 2) }
		for range 3 {
			k, l, x, p := some(), some(), some(), some()
			for _, more := range [][2]int64{{0, 0}, {1, 0}, {0, 1}, {1, 1}} {
				y, r := s.within(plus(x, more[0])), s.within(plus(p, more[1]))
				c := s.between(k, l, x, y)
				challenge := dleq.Answer(g, c.ours(), fromBig(s.exp(c[0], p)), fromBig(s.exp(c[1], r)), side)
				for _, answer := range []*big.Int{s.answer(p, toBig(challenge), x), s.answer(r, toBig(challenge), y)} {
					if got := dleq.Verify(g, c.ours(), side, s.proof(toBig(challenge), answer)); got != (more == [2]int64{}) {
						t.Errorf("Q %v: %v more: %v", s.q, more, got)
					}
				}
			}
		}
	}
}

// Two unlike exponents, bases or sides have unlike draws: with one draw for both, the two answers would tell the exponent.
func TestDrawsAreUnlike(t *testing.T) {
	random := rand.New(rand.NewSource(6))
	for _, s := range greats() {
		g, draws, count := s.group(t), map[string]bool{}, 0
		for _, x := range s.exponents(random)[:3] {
			for _, base := range s.bases(t, random)[:5] {
				for _, side := range []string{"", "a"} {
					_, proof, _ := dleq.Prove(g, fromBig(base[0]), fromBig(base[1]), fromBig(x), []byte(side))
					c, answer := s.parts(proof)
					draws[s.within(answer.Sub(answer, c.Mul(c, x))).String()] = true
					count++
				}
			}
		}
		if len(draws) != count {
			t.Errorf("Q %v: %d draws of %d", s.q, len(draws), count)
		}
	}
}

func TestSameAgain(t *testing.T) {
	s, side := greats()[0], []byte("a side")
	g, x := s.group(t), nat.New(123456789)
	c, proof, _ := dleq.Prove(g, g.G(), g.H(), x, side)
	want, bytesWant := claim{toBig(c.A), toBig(c.B), toBig(c.Y), toBig(c.Z)}, slices.Clone(proof)
	var wait sync.WaitGroup
	for range 8 {
		wait.Go(func() {
			again, proofAgain, errno := dleq.Prove(g, g.G(), g.H(), x, side)
			if errno != api.OK || !want.is(again) || !bytes.Equal(proofAgain, bytesWant) || !dleq.Verify(g, c, side, proofAgain) {
				t.Errorf("%v, %x, error %d, not %x", again, proofAgain, errno, bytesWant)
			}
			clear(proofAgain)
		})
	}
	wait.Wait()
	if !bytes.Equal(proof, bytesWant) {
		t.Error("two answers share their bytes")
	}
}

// What is handed in stays as it is, its spare room too, and isn't kept.
func TestHandedIn(t *testing.T) {
	for _, s := range []sample{example(), greats()[0]} {
		g, x := s.group(t), fromBig(plus(s.q, -3))
		a, b := g.G(), g.H()
		room := []byte("side, and more")
		c, proof, _ := dleq.Prove(g, a, b, x, room[:4])
		want, bound := slices.Clone(proof), append(slices.Clone(proof), 1, 2, 3)
		challenge := dleq.Answer(g, c, a, b, room[:4])
		if !dleq.Verify(g, c, room[:4], bound[:len(proof)]) || string(room) != "side, and more" || !bytes.Equal(bound, append(slices.Clone(want), 1, 2, 3)) {
			t.Errorf("Q %v: %q, %x, not %x", s.q, room, bound, want)
		}
		clear(room)
		clear(bound)
		if !bytes.Equal(proof, want) || !is(x, plus(s.q, -3)) || !is(a, s.g) || b.Cmp(g.H()) != 0 || !s.holding(s.g, toBig(b), toBig(x)).is(c) {
			t.Errorf("Q %v: what is handed in is kept or changed", s.q)
		}
		if _, again, _ := dleq.Prove(g, a, b, x, []byte("side")); !bytes.Equal(again, proof) {
			t.Errorf("Q %v: %x, and again %x", s.q, proof, again)
		}
		if again := dleq.Answer(g, c, a, b, []byte("side")); again.Cmp(challenge) != 0 {
			t.Errorf("Q %v: %v, and again %v", s.q, toBig(challenge), toBig(again))
		}
	}
}

// Even where bases are the same number, or powers are what their bases are.
func TestAnswersAreNewMemory(t *testing.T) {
	for _, s := range []sample{example(), greats()[0]} {
		g, x := s.group(t), nat.New(1)
		a, b := g.G(), g.H()
		seen := map[uintptr]bool{where(a): true, where(b): true, where(x): true}
		for range 2 {
			for _, base := range [][2]nat.Nat{{a, b}, {a, a}} {
				c, _, _ := dleq.Prove(g, base[0], base[1], x, nil)
				challenge := dleq.Answer(g, c, a, b, []byte("side"))
				for i, n := range []nat.Nat{c.A, c.B, c.Y, c.Z, challenge} {
					if seen[where(n)] {
						t.Errorf("Q %v: number %d of the answers shares memory", s.q, i)
					}
					seen[where(n)] = true
				}
			}
		}
	}
}
