package sign_test

import (
	"bytes"
	"encoding/hex"
	"math/big"
	"math/rand"
	"slices"
	"sync"
	"testing"

	"sacristy/api"
	"sacristy/nat"
	"sacristy/sign"
)

// What another writing of the chapter, in another language, told.
func TestExamples(t *testing.T) {
	long := make([]byte, 200)
	for i := range long {
		long[i] = byte(i)
	}
	for _, c := range []struct {
		of   sample
		x    uint64
		msg  string
		want string
	}{
		{example(), 5, "text", "233d"},
		{example(), 5, "", "4558"},
		{example(), 1, "text", "0a14"},
		{example(), 100, "text", "0f3f"},
		{example(), 42, string(long), "031a"},
		{sample{p: number(719), q: number(359), g: number(4)}, 5, "text", "010f0110"},
		{sample{p: number(719), q: number(359), g: number(4)}, 5, "", "007100e4"},
		{sample{p: number(719), q: number(359), g: number(4)}, 1, "text", "00aa00cc"},
		{sample{p: number(719), q: number(359), g: number(4)}, 100, "text", "008c0005"},
		{sample{p: number(719), q: number(359), g: number(4)}, 42, string(long), "002c0094"},
	} {
		g := c.of.group(t)
		sig, errno := sign.Sign(g, nat.New(c.x), []byte(c.msg))
		if errno != api.OK || hex.EncodeToString(sig) != c.want {
			t.Errorf("Q %v: Sign(%d, %q): %x, error %d", c.of.q, c.x, c.msg, sig, errno)
		}
		y, _ := sign.Public(g, nat.New(c.x))
		if !sign.Verify(g, y, []byte(c.msg), sig) {
			t.Errorf("Q %v: %x doesn't verify for %d and %q", c.of.q, sig, c.x, c.msg)
		}
	}
}

// P11.1: Size

func TestSize(t *testing.T) {
	for _, s := range all() {
		if got := sign.Size(s.group(t)); got != 2*lengthOf(s.q) {
			t.Errorf("Q %v: %d bytes", s.q, got)
		}
	}
	if got := sign.Size(nil); got != 0 {
		t.Errorf("of no group: %d bytes", got)
	}
}

// P11.1: Public

func TestPublic(t *testing.T) {
	random := rand.New(rand.NewSource(1))
	for _, s := range all() {
		g := s.group(t)
		for _, x := range s.keys(random) {
			y, errno := sign.Public(g, fromBig(x))
			if errno != api.OK || !is(y, s.exp(s.g, x)) {
				t.Errorf("Q %v: Public(%v): %v, error %d", s.q, x, toBig(y), errno)
			}
		}
	}
	s := example()
	g := s.group(t)
	for x := range s.q.Int64() {
		y, errno := sign.Public(g, nat.New(uint64(x)))
		if want := s.exp(s.g, number(x)); x > 0 && (errno != api.OK || !is(y, want)) {
			t.Errorf("Public(%d): %v, error %d", x, toBig(y), errno)
		}
	}
}

func TestPublicOfNoKey(t *testing.T) {
	for _, s := range all() {
		g := s.group(t)
		for _, x := range s.noKeys() {
			if y, errno := sign.Public(g, fromBig(x)); errno != api.ErrArg || !isZeroValue(y) {
				t.Errorf("Q %v: Public(%v): %v, error %d", s.q, x, toBig(y), errno)
			}
		}
	}
	for x := range uint64(3) {
		if y, errno := sign.Public(nil, nat.New(x)); errno != api.ErrArg || !isZeroValue(y) {
			t.Errorf("of no group: Public(%d): %v, error %d", x, toBig(y), errno)
		}
	}
}

// P11.1: Sign

func checkSign(t *testing.T, s sample, x *big.Int, msg []byte) {
	t.Helper()
	g := s.group(t)
	sig, errno := sign.Sign(g, fromBig(x), msg)
	if want := s.signed(t, x, msg); errno != api.OK || !bytes.Equal(sig, want) {
		t.Errorf("Q %v: Sign(%v, %d bytes): %x, error %d, not %x", s.q, x, len(msg), sig, errno, want)
	}
	if !sign.Verify(g, fromBig(s.exp(s.g, x)), msg, sig) {
		t.Errorf("Q %v: what %v signed of %d bytes doesn't verify", s.q, x, len(msg))
	}
}

func TestSign(t *testing.T) {
	random := rand.New(rand.NewSource(2))
	for _, s := range littles() {
		for _, x := range s.keys(random) {
			for _, msg := range messages(random) {
				checkSign(t, s, x, msg)
			}
		}
	}
	for _, s := range greats() {
		keys := s.keys(random)
		for i, msg := range messages(random) {
			checkSign(t, s, keys[i%len(keys)], msg)
		}
		for _, x := range keys {
			checkSign(t, s, x, []byte("text"))
		}
	}
}

// Of a draw that is 0 in the field, 1 is taken: with 0 the answer would tell the key.
func TestSignWithTheDrawOfNothing(t *testing.T) {
	for _, s := range littles()[:4] {
		found := 0
		for i := 0; found < 5; i++ {
			x, msg := number(1+int64(i)%(s.q.Int64()-1)), []byte{byte(i), byte(i >> 8)}
			if s.expanded(t, x, msg).Sign() == 0 {
				checkSign(t, s, x, msg)
				found++
			}
		}
	}
}

func TestSignOfNoKey(t *testing.T) {
	for _, msg := range [][]byte{nil, []byte("text")} {
		for _, s := range all() {
			g := s.group(t)
			for _, x := range s.noKeys() {
				if sig, errno := sign.Sign(g, fromBig(x), msg); errno != api.ErrArg || sig != nil {
					t.Errorf("Q %v: Sign(%v): %x, error %d", s.q, x, sig, errno)
				}
			}
		}
		for x := range uint64(3) {
			if sig, errno := sign.Sign(nil, nat.New(x), msg); errno != api.ErrArg || sig != nil {
				t.Errorf("of no group: Sign(%d): %x, error %d", x, sig, errno)
			}
		}
	}
}

// P11.1: Verify

func checkVerify(t *testing.T, s sample, y *big.Int, msg, sig []byte) bool {
	t.Helper()
	got := sign.Verify(s.group(t), fromBig(y), msg, sig)
	if got != s.verifies(y, msg, sig) {
		t.Errorf("P %v, Q %v: Verify(%v, %q, %x): %v", s.p, s.q, y, msg, sig, got)
	}
	return got
}

// All bytes that are as many as a signature's, numbers that aren't below Q among them.
func TestVerifyOfAllBytes(t *testing.T) {
	msg, count := []byte("text"), 0
	for n := range 1 << 16 {
		if checkVerify(t, example(), example().exp(number(64), number(5)), msg, []byte{byte(n >> 8), byte(n)}) {
			count++
		}
	}
	if count < 50 || count > 200 {
		t.Errorf("%d signatures of one message", count)
	}
}

// All members, the one that is 1 among them, and all other numbers up to a bit above P.
func TestVerifyOfAllMembers(t *testing.T) {
	s, msg, count := example(), []byte("all"), 0
	for y := range int64(700) {
		for answer := range int64(101) {
			if c := (y*7 + answer) % 101; checkVerify(t, s, number(y), msg, s.signature(number(c), number(answer))) {
				count++
			}
		}
	}
	if count < 50 {
		t.Errorf("%d signatures", count)
	}
}

func TestVerifyOfOne(t *testing.T) {
	s, msg, count := example(), []byte("one"), 0
	for n := range int64(101 * 101) {
		if checkVerify(t, s, number(1), msg, s.signature(number(n/101), number(n%101))) {
			count++
		}
	}
	if count == 0 {
		t.Error("no signature verifies for 1, which is a member")
	}
}

// What would verify if nobody asked whether y is a member: for each number that is none there are such bytes.
func TestVerifyOfNoMember(t *testing.T) {
	s, msg := example(), []byte("text")
	for _, y := range []int64{2, 3, 5, 606, 607 - 64, 607 + 64, 608, 607*2 + 1} {
		g, count := s.group(t), 0
		for n := range int64(101 * 101) {
			c, answer := number(n/101), number(n%101)
			if s.challenge(s.inPlaceOfA(number(y), c, answer), number(y), msg).Cmp(c) != 0 {
				continue
			}
			count++
			if sign.Verify(g, nat.New(uint64(y)), msg, s.signature(c, answer)) {
				t.Errorf("%v, %v verifies for %d, which is no member", c, answer, y)
			}
		}
		if count == 0 {
			t.Errorf("nothing was asked of %d", y)
		}
	}
	random := rand.New(rand.NewSource(3))
	for _, s := range all() {
		g := s.group(t)
		x := s.keys(random)[7]
		sig := s.signed(t, x, msg)
		for _, y := range s.noMembers(s.exp(s.g, x)) {
			if sign.Verify(g, fromBig(y), msg, sig) || sign.Verify(g, fromBig(y), msg, make([]byte, len(sig))) {
				t.Errorf("Q %v: verifies for %v, which is no member", s.q, y)
			}
		}
	}
}

// Either number is the same one in the field when Q is added, and yet it isn't one of a signature.
func TestVerifyOfNumbersAboveQ(t *testing.T) {
	random := rand.New(rand.NewSource(4))
	for _, s := range all() {
		g, size, msg, room := s.group(t), lengthOf(s.q), []byte("text"), power(uint(8*lengthOf(s.q)))
		asked := 0
		for i, x := range slices.Repeat(s.keys(random), 3) {
			msg := append(msg, byte(i))
			y, sig := fromBig(s.exp(s.g, x)), s.signed(t, x, msg)
			for at := range 2 {
				part := slices.Clone(sig)[at*size:][:size]
				above := sum(new(big.Int).SetBytes(part), s.q)
				if above.Cmp(room) >= 0 {
					continue
				}
				asked++
				other := slices.Clone(sig)
				above.FillBytes(other[at*size:][:size])
				if sign.Verify(g, y, msg, other) {
					t.Errorf("Q %v: %x verifies", s.q, other)
				}
			}
			for _, n := range []*big.Int{s.q, plus(room, -1)} {
				for _, other := range [][]byte{s.signature(n, number(0)), s.signature(number(0), n), s.signature(n, n)} {
					if sign.Verify(g, y, msg, other) {
						t.Errorf("Q %v: %x verifies", s.q, other)
					}
				}
			}
		}
		if room.Cmp(sum(s.q, s.q)) > 0 && asked == 0 {
			t.Errorf("Q %v: nothing was asked", s.q)
		}
	}
}

func TestVerifyOfOtherLengths(t *testing.T) {
	random := rand.New(rand.NewSource(5))
	for _, s := range all() {
		g, msg := s.group(t), []byte("text")
		x := s.keys(random)[6]
		y, sig := fromBig(s.exp(s.g, x)), s.signed(t, x, msg)
		size := len(sig) / 2
		for _, other := range [][]byte{
			nil, {}, sig[:1], sig[1:], sig[:len(sig)-1], sig[:size], sig[size:], append([]byte{0}, sig...), append(slices.Clone(sig), 0),
			slices.Concat([]byte{0}, sig[:size], []byte{0}, sig[size:]), slices.Concat(sig[:size], []byte{0}, sig[size:]), slices.Repeat(sig, 2), append(sig, make([]byte, 70_000)...),
		} {
			if sign.Verify(g, y, msg, other) {
				t.Errorf("Q %v: %d bytes verify", s.q, len(other))
			}
		}
		if s.q.BitLen() > 100 && sign.Verify(g, y, msg, slices.Concat(sig[size:], sig[:size])) {
			t.Errorf("Q %v: the answer verifies ahead of the challenge", s.q)
		}
	}
}

// Noughts ahead of a number count: without them, or with more, it is no signature.
func TestVerifyWithoutNoughts(t *testing.T) {
	s, count := littles()[3], 0
	g := s.group(t)
	for x := int64(1); x < 200; x++ {
		y, sig := fromBig(s.exp(s.g, number(x))), s.signed(t, number(x), nil)
		for at := 0; at < 4; at += 2 {
			if sig[at] != 0 {
				continue
			}
			count++
			if sign.Verify(g, y, nil, slices.Delete(slices.Clone(sig), at, at+1)) || sign.Verify(g, y, nil, slices.Insert(slices.Clone(sig), at, 0)) {
				t.Errorf("of %x another length verifies", sig)
			}
		}
	}
	if count < 100 {
		t.Errorf("%d numbers with a nought ahead", count)
	}
}

// Another key, another message, another bit of the signature.
func TestVerifyOfOthers(t *testing.T) {
	random := rand.New(rand.NewSource(6))
	for _, s := range greats() {
		g, msg := s.group(t), []byte("a message")
		keys := s.keys(random)
		x := keys[5]
		y, sig := fromBig(s.exp(s.g, x)), s.signed(t, x, msg)
		if !sign.Verify(g, y, msg, sig) {
			t.Errorf("Q %v: %x doesn't verify", s.q, sig)
		}
		for _, other := range keys {
			if other.Cmp(x) != 0 && sign.Verify(g, fromBig(s.exp(s.g, other)), msg, sig) {
				t.Errorf("Q %v: verifies for another key", s.q)
			}
		}
		for i := range msg {
			if sign.Verify(g, y, changed(msg, i, 1), sig) || sign.Verify(g, y, msg[:i], sig) {
				t.Errorf("Q %v: verifies for another message", s.q)
			}
		}
		if sign.Verify(g, y, append(msg, 0), sig) || sign.Verify(g, y, nil, sig) {
			t.Errorf("Q %v: verifies for another message", s.q)
		}
		for i := range sig {
			if sign.Verify(g, y, msg, changed(sig, i, 1<<random.Intn(8))) {
				t.Errorf("Q %v: verifies with another byte %d", s.q, i)
			}
		}
	}
}

func TestVerifyOfNoGroup(t *testing.T) {
	for _, y := range []nat.Nat{{}, nat.New(1), nat.New(64)} {
		for _, sig := range [][]byte{nil, {}, {0}, {0, 0}, {0x23, 0x3d}} {
			if sign.Verify(nil, y, nil, sig) || sign.Verify(nil, y, []byte("text"), sig) {
				t.Errorf("of no group: Verify(%v, %x)", toBig(y), sig)
			}
		}
	}
}

// P11.2

// All draws with all challenges, in a small group; y is of the key alone.
func TestAnswersVerifyJustIf(t *testing.T) {
	s, msg, count := example(), []byte("just if"), 0
	for _, x := range []*big.Int{number(1), number(37), number(100)} {
		g, y := s.group(t), s.exp(s.g, x)
		for n := range int64(101 * 101) {
			k, c := number(n/101), number(n%101)
			want := s.challenge(s.exp(s.g, k), y, msg).Cmp(c) == 0
			if got := sign.Verify(g, fromBig(y), msg, s.signature(c, s.answer(k, c, x))); got != want {
				t.Errorf("x %v, k %v, c %v: %v", x, k, c, got)
			}
			if want {
				count++
			}
		}
	}
	if count != 3*101 {
		t.Errorf("%d signatures", count)
	}
}

func TestAnswersOfGreatGroups(t *testing.T) {
	random := rand.New(rand.NewSource(7))
	for _, s := range greats() {
		g := s.group(t)
		for _, x := range s.keys(random)[3:] {
			y, msg := s.exp(s.g, x), []byte(x.String())
			k := new(big.Int).Rand(random, s.q)
			c := s.challenge(s.exp(s.g, k), y, msg)
			if !sign.Verify(g, fromBig(y), msg, s.signature(c, s.answer(k, c, x))) {
				t.Errorf("Q %v: x %v, k %v doesn't verify", s.q, x, k)
			}
			other := plus(c, 1)
			other.Mod(other, s.q)
			if sign.Verify(g, fromBig(y), msg, s.signature(other, s.answer(k, other, x))) {
				t.Errorf("Q %v: x %v, k %v verifies with another challenge", s.q, x, k)
			}
		}
	}
}

// Two unlike messages, or keys, have unlike draws: with one draw for both, the two answers would tell the key.
func TestDrawsAreUnlike(t *testing.T) {
	random := rand.New(rand.NewSource(8))
	for _, s := range greats() {
		g, size := s.group(t), lengthOf(s.q)
		draws := map[string]bool{}
		for _, x := range s.keys(random)[:5] {
			for _, msg := range []string{"", "a", "b"} {
				sig, _ := sign.Sign(g, fromBig(x), []byte(msg))
				c, k := new(big.Int).SetBytes(sig[:size]), new(big.Int).SetBytes(sig[size:])
				k.Mod(k.Sub(k, c.Mul(c, x)), s.q)
				draws[k.String()] = true
			}
		}
		if len(draws) != 15 {
			t.Errorf("Q %v: %d draws", s.q, len(draws))
		}
	}
}

func TestSameAgain(t *testing.T) {
	g, x, msg := greats()[0].group(t), nat.New(123456789), []byte("a message")
	sig, _ := sign.Sign(g, x, msg)
	y, _ := sign.Public(g, x)
	want := slices.Clone(sig)
	var wait sync.WaitGroup
	for range 8 {
		wait.Go(func() {
			again, errno := sign.Sign(g, x, msg)
			if errno != api.OK || !bytes.Equal(again, want) || !sign.Verify(g, y, msg, again) {
				t.Errorf("%x, error %d, not %x", again, errno, want)
			}
			clear(again)
		})
	}
	wait.Wait()
	if !bytes.Equal(sig, want) {
		t.Error("two answers share their bytes")
	}
}

// What is handed in stays as it is, its spare room too, and isn't kept.
func TestHandedIn(t *testing.T) {
	for _, s := range []sample{example(), greats()[0]} {
		g, x := s.group(t), fromBig(plus(s.q, -3))
		room := []byte("text, and more")
		sig, _ := sign.Sign(g, x, room[:4])
		want, bound := slices.Clone(sig), append(slices.Clone(sig), 1, 2, 3)
		y, _ := sign.Public(g, x)
		power := toBig(y)
		if !sign.Verify(g, y, room[:4], bound[:len(sig)]) || string(room) != "text, and more" || !bytes.Equal(bound, append(want, 1, 2, 3)) {
			t.Errorf("Q %v: %q, %x, not %x", s.q, room, bound, want)
		}
		clear(room)
		clear(bound)
		if !bytes.Equal(sig, want[:len(sig)]) || !is(x, plus(s.q, -3)) || !is(y, power) {
			t.Errorf("Q %v: what is handed in is kept or changed", s.q)
		}
		if again, _ := sign.Sign(g, x, []byte("text")); !bytes.Equal(again, sig) {
			t.Errorf("Q %v: %x, and again %x", s.q, sig, again)
		}
	}
}
