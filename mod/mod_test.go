package mod_test

import (
	"bytes"
	"math/big"
	"math/rand"
	"reflect"
	"testing"

	"sacristy/api"
	"sacristy/mod"
	"sacristy/nat"
)

// The library's own numbers are what ours are held against.

func toBig(a nat.Nat) *big.Int { return new(big.Int).SetBytes(a.Least()) }

// fromBig makes numbers of any length, where FromBytes stops at MaxBytes.
func fromBig(n *big.Int) nat.Nat {
	a := nat.Nat{}
	shift := nat.New(256)
	for _, b := range n.Bytes() {
		a = a.Mul(shift).Add(nat.New(uint64(b)))
	}
	return a
}

func isZeroValue(a nat.Nat) bool { return reflect.DeepEqual(a, nat.Nat{}) }

func is(a nat.Nat, want *big.Int) bool {
	return a.Cmp(fromBig(want)) == 0 && bytes.Equal(a.Least(), want.Bytes())
}

func ring(t *testing.T, m *big.Int) *mod.Ring {
	t.Helper()
	r, e := mod.New(fromBig(m))
	if r == nil || e != api.OK {
		t.Fatalf("New(%x): %d", m, e)
	}
	return r
}

func small(t *testing.T, m int64) *mod.Ring {
	t.Helper()
	return ring(t, big.NewInt(m))
}

func power(bits uint) *big.Int { return new(big.Int).Lsh(big.NewInt(1), bits) }

// about: the numbers next to a power of 2.
func about(bits uint) []*big.Int {
	var l []*big.Int
	for d := int64(-2); d <= 2; d++ {
		if n := new(big.Int).Add(power(bits), big.NewInt(d)); n.Sign() >= 0 {
			l = append(l, n)
		}
	}
	return l
}

// someModuli: small ones, about the ends of words, primes and others, even and odd, up to as long as they come as bytes and beyond.
func someModuli() []*big.Int {
	var l []*big.Int
	for m := int64(2); m <= 18; m++ {
		l = append(l, big.NewInt(m))
	}
	for _, bits := range []uint{8, 32, 64, 130, 256} {
		l = append(l, about(bits)...)
	}
	l = append(l, new(big.Int).Sub(power(130), big.NewInt(5)), new(big.Int).Sub(power(127), big.NewInt(1)))
	l = append(l, new(big.Int).Sub(power(1024), big.NewInt(1)), power(1024), new(big.Int).Sub(power(1100), big.NewInt(3)))
	return l
}

// someFor: numbers for a modulus: about 0, about it and its multiples, and any, below and far above it.
func someFor(m *big.Int, random *rand.Rand) []*big.Int {
	var l []*big.Int
	for _, times := range []int64{0, 1, 2, 15} {
		product := new(big.Int).Mul(m, big.NewInt(times))
		for d := int64(-2); d <= 2; d++ {
			if n := new(big.Int).Add(product, big.NewInt(d)); n.Sign() >= 0 {
				l = append(l, n)
			}
		}
	}
	l = append(l, new(big.Int).Rsh(m, 1), new(big.Int).Mul(m, m))
	for range 3 {
		l = append(l, new(big.Int).Rand(random, m), new(big.Int).Rand(random, new(big.Int).Mul(m, m)))
	}
	return l
}

// P2.1

func TestExamples(t *testing.T) {
	seven := small(t, 7)
	if got := seven.Sub(nat.New(2), nat.New(5)); !is(got, big.NewInt(4)) {
		t.Error("2 - 5:", toBig(got))
	}
	if got := seven.Exp(nat.New(3), nat.New(4)); !is(got, big.NewInt(4)) {
		t.Error("3, 4 times:", toBig(got))
	}
	if got, e := seven.Inv(nat.New(3)); e != api.OK || !is(got, big.NewInt(5)) {
		t.Error("inverse of 3:", toBig(got), e)
	}
	if got, e := small(t, 8).Inv(nat.New(2)); e != api.ErrNone || !isZeroValue(got) {
		t.Error("inverse of 2:", toBig(got), e)
	}
}

func TestNew(t *testing.T) {
	for _, m := range someModuli() {
		if got := ring(t, m).Modulus(); !is(got, m) {
			t.Errorf("modulus %x: %x", m, toBig(got))
		}
	}
}

func TestNewBelowTwo(t *testing.T) {
	for _, m := range []nat.Nat{{}, nat.New(0), nat.New(1)} {
		if r, e := mod.New(m); r != nil || e != api.ErrArg {
			t.Errorf("New(%x): %v, %d", toBig(m), r, e)
		}
	}
}

func TestOf(t *testing.T) {
	random := rand.New(rand.NewSource(1))
	for _, m := range someModuli() {
		r := ring(t, m)
		for _, a := range someFor(m, random) {
			if got, want := r.Of(fromBig(a)), new(big.Int).Mod(a, m); !is(got, want) {
				t.Errorf("%x in the ring of %x: %x", a, m, toBig(got))
			}
		}
	}
}

func TestAddSubMul(t *testing.T) {
	random := rand.New(rand.NewSource(2))
	for _, m := range someModuli() {
		l := someFor(m, random)
		for _, a := range l {
			for _, b := range l {
				checkPair(t, m, a, b)
			}
		}
	}
}

func checkPair(t *testing.T, m, a, b *big.Int) {
	t.Helper()
	r, x, y := ring(t, m), fromBig(a), fromBig(b)
	want := new(big.Int)
	if got := r.Add(x, y); !is(got, want.Mod(want.Add(a, b), m)) {
		t.Errorf("%x + %x in the ring of %x: %x", a, b, m, toBig(got))
	}
	if got := r.Sub(x, y); !is(got, want.Mod(want.Sub(a, b), m)) {
		t.Errorf("%x - %x in the ring of %x: %x", a, b, m, toBig(got))
	}
	if got := r.Mul(x, y); !is(got, want.Mod(want.Mul(a, b), m)) {
		t.Errorf("%x * %x in the ring of %x: %x", a, b, m, toBig(got))
	}
}

// Each exponent of up to three digits of four bits, nought among them in each place.
func TestExpOfSmallExponents(t *testing.T) {
	for _, m := range []int64{2, 7, 8, 607, 1 << 32} {
		r := small(t, m)
		for _, a := range []int64{0, 1, 2, 3, 64, m - 1, m, m + 5} {
			want := big.NewInt(1 % m)
			for e := range uint64(1 << 12) {
				if got := r.Exp(nat.New(uint64(a)), nat.New(e)); !is(got, want) {
					t.Fatalf("%d, %d times, in the ring of %d: %x", a, e, m, toBig(got))
				}
				want.Mul(want, big.NewInt(a))
				want.Mod(want, big.NewInt(m))
			}
		}
	}
}

func TestExp(t *testing.T) {
	random := rand.New(rand.NewSource(3))
	for _, m := range someModuli() {
		r := ring(t, m)
		for _, a := range someFor(m, random)[8:] {
			for _, e := range someExponents(random) {
				if got, want := r.Exp(fromBig(a), fromBig(e)), new(big.Int).Exp(a, e, m); !is(got, want) {
					t.Errorf("%x, %x times, in the ring of %x: %x", a, e, m, toBig(got))
				}
			}
		}
	}
}

// someExponents: also such as are longer than any modulus, and begin or end with noughts.
func someExponents(random *rand.Rand) []*big.Int {
	l := []*big.Int{new(big.Int), power(131), new(big.Int).Sub(power(129), big.NewInt(1)), power(1200)}
	for _, bits := range []uint{5, 64, 127, 255} {
		l = append(l, new(big.Int).Rand(random, power(bits)))
	}
	return append(l, new(big.Int).Lsh(l[len(l)-1], 37))
}

func TestExpOfNothing(t *testing.T) {
	for _, m := range someModuli() {
		r := ring(t, m)
		for _, a := range []nat.Nat{{}, nat.New(1), nat.New(5), r.Modulus()} {
			if got := r.Exp(a, nat.Nat{}); !is(got, big.NewInt(1)) {
				t.Errorf("%x, 0 times, in the ring of %x: %x", toBig(a), m, toBig(got))
			}
		}
		if got := r.Exp(nat.Nat{}, nat.New(3)); !isZeroValue(got) {
			t.Errorf("0, 3 times, in the ring of %x: %x", m, toBig(got))
		}
	}
}

func TestInv(t *testing.T) {
	random := rand.New(rand.NewSource(4))
	for _, m := range someModuli() {
		for _, a := range someFor(m, random) {
			checkInv(t, m, a)
		}
	}
}

func TestInvOfAllInSmallRings(t *testing.T) {
	for m := int64(2); m <= 130; m++ {
		for a := range 2*m + 1 {
			checkInv(t, big.NewInt(m), big.NewInt(a))
		}
	}
}

func checkInv(t *testing.T, m, a *big.Int) {
	t.Helper()
	got, e := ring(t, m).Inv(fromBig(a))
	want := new(big.Int).ModInverse(a, m)
	if want == nil {
		if e != api.ErrNone || !isZeroValue(got) {
			t.Errorf("inverse of %x in the ring of %x: %x, %d", a, m, toBig(got), e)
		}
	} else if e != api.OK || !is(got, want) {
		t.Errorf("inverse of %x in the ring of %x: %x, %d", a, m, toBig(got), e)
	}
}

func TestInvOfNought(t *testing.T) {
	for _, m := range someModuli() {
		r := ring(t, m)
		for _, a := range []nat.Nat{{}, r.Modulus(), r.Modulus().Mul(nat.New(3))} {
			if got, e := r.Inv(a); e != api.ErrNone || !isZeroValue(got) {
				t.Errorf("inverse of %x in the ring of %x: %x, %d", toBig(a), m, toBig(got), e)
			}
		}
	}
}

func TestNilRing(t *testing.T) {
	var r *mod.Ring
	for _, a := range []nat.Nat{{}, nat.New(1), nat.New(7), fromBig(power(1100))} {
		for _, b := range []nat.Nat{{}, nat.New(1), fromBig(power(70))} {
			for i, got := range []nat.Nat{r.Modulus(), r.Of(a), r.Add(a, b), r.Sub(a, b), r.Mul(a, b), r.Exp(a, b)} {
				if !isZeroValue(got) {
					t.Errorf("call %d of %x, %x: %x", i, toBig(a), toBig(b), toBig(got))
				}
			}
		}
		if got, e := r.Inv(a); e != api.ErrArg || !isZeroValue(got) {
			t.Errorf("inverse of %x: %x, %d", toBig(a), toBig(got), e)
		}
	}
}

// P2.2

func TestAnswersAreBelowTheModulus(t *testing.T) {
	random := rand.New(rand.NewSource(5))
	for _, m := range someModuli() {
		r := ring(t, m)
		l := someFor(m, random)
		for i, a := range l {
			x, y := fromBig(a), fromBig(l[(i*7+3)%len(l)])
			inverse, _ := r.Inv(x)
			for k, got := range []nat.Nat{r.Of(x), r.Add(x, y), r.Sub(x, y), r.Mul(x, y), r.Exp(x, nat.New(3)), inverse} {
				if got.Cmp(r.Modulus()) >= 0 {
					t.Errorf("call %d of %x, %x in the ring of %x: %x", k, a, toBig(y), m, toBig(got))
				}
			}
		}
	}
}

func TestPowerOfASum(t *testing.T) {
	random := rand.New(rand.NewSource(6))
	for _, m := range someModuli() {
		r := ring(t, m)
		for range 3 {
			a := fromBig(new(big.Int).Rand(random, m))
			d, e := fromBig(new(big.Int).Rand(random, power(140))), fromBig(new(big.Int).Rand(random, power(61)))
			if whole, product := r.Exp(a, d.Add(e)), r.Mul(r.Exp(a, d), r.Exp(a, e)); whole.Cmp(product) != 0 {
				t.Errorf("%x, %x + %x times, in the ring of %x: %x, %x", toBig(a), toBig(d), toBig(e), m, toBig(whole), toBig(product))
			}
		}
	}
}

func TestNumberAndInverse(t *testing.T) {
	random := rand.New(rand.NewSource(7))
	one := nat.New(1)
	for _, m := range someModuli() {
		r := ring(t, m)
		for _, a := range someFor(m, random) {
			x := fromBig(a)
			inverse, e := r.Inv(x)
			if apart := x.Gcd(r.Modulus()).Cmp(one) == 0; apart != (e == api.OK) {
				t.Errorf("inverse of %x in the ring of %x: %d", a, m, e)
			}
			if e == api.OK && r.Mul(x, inverse).Cmp(one) != 0 {
				t.Errorf("%x and its inverse in the ring of %x: %x", a, m, toBig(r.Mul(x, inverse)))
			}
		}
	}
}

// What is handed in and what is answered stays as it is, and a ring answers the same, whatever is asked between.
func TestNothingChanges(t *testing.T) {
	m, a, b := fromBig(big.NewInt(1_000_003)), fromBig(power(70)), fromBig(power(33))
	r, _ := mod.New(m)
	first := askAll(r, a, b)
	for _, x := range first {
		askAll(r, x, m)
		askAll(r, m, x)
	}
	second := askAll(r, a, b)
	for i := range first {
		if first[i].Cmp(second[i]) != 0 {
			t.Errorf("answer %d: %x, later %x", i, toBig(first[i]), toBig(second[i]))
		}
	}
	if !is(m, big.NewInt(1_000_003)) || !is(a, power(70)) || !is(b, power(33)) || !is(r.Modulus(), big.NewInt(1_000_003)) {
		t.Errorf("changed: %x, %x, %x, %x", toBig(m), toBig(a), toBig(b), toBig(r.Modulus()))
	}
}

func askAll(r *mod.Ring, a, b nat.Nat) []nat.Nat {
	inverse, _ := r.Inv(a)
	return []nat.Nat{r.Modulus(), r.Of(a), r.Add(a, b), r.Sub(a, b), r.Mul(a, b), r.Exp(a, b), inverse}
}
