package nat_test

import (
	"bytes"
	"math"
	"math/big"
	"math/rand"
	"reflect"
	"slices"
	"testing"

	"sacristy/api"
	"sacristy/nat"
)

// The library's own numbers are what ours are held against.

func toBig(a nat.Nat) *big.Int { return new(big.Int).SetBytes(a.Least()) }

// fromBig makes numbers of any length, where FromBytes stops at MaxBytes.
func fromBig(n *big.Int) nat.Nat {
	a := nat.Nat{}
	shift := nat.New(1 << 32)
	for _, word := range wordsFromHighest(n) {
		a = a.Mul(shift).Add(nat.New(uint64(word)))
	}
	return a
}

func wordsFromHighest(n *big.Int) []uint32 {
	b := n.Bytes()
	b = append(make([]byte, (4-len(b)%4)%4), b...)
	var words []uint32
	for i := 0; i < len(b); i += 4 {
		words = append(words, uint32(b[i])<<24|uint32(b[i+1])<<16|uint32(b[i+2])<<8|uint32(b[i+3]))
	}
	return words
}

func hex(t *testing.T, digits string) nat.Nat {
	t.Helper()
	n, ok := new(big.Int).SetString(digits, 16)
	if !ok {
		t.Fatalf("no number: %q", digits)
	}
	return fromBig(n)
}

func power(bits uint) *big.Int { return new(big.Int).Lsh(big.NewInt(1), bits) }

// someBig: numbers about the ends of words, and others of any look, some with long rows of ones or noughts.
func someBig() []*big.Int {
	var l []*big.Int
	for _, bits := range []uint{0, 1, 8, 31, 32, 33, 63, 64, 65, 95, 96, 97, 127, 128, 160, 1023, 1024} {
		for d := int64(-2); d <= 2; d++ {
			if n := new(big.Int).Add(power(bits), big.NewInt(d)); n.Sign() >= 0 {
				l = append(l, n)
			}
		}
	}
	random := rand.New(rand.NewSource(1))
	for i := range 60 {
		n := new(big.Int)
		for range 1 + i%9 {
			n.Lsh(n, 32)
			switch random.Intn(4) {
			case 0:
				n.Add(n, big.NewInt(math.MaxUint32))
			case 1:
				n.Add(n, big.NewInt(1<<31))
			case 2:
				n.Add(n, big.NewInt(int64(random.Uint32())))
			}
		}
		l = append(l, n)
	}
	return l
}

func someNats(t *testing.T) []nat.Nat {
	t.Helper()
	var l []nat.Nat
	for _, n := range someBig() {
		a := fromBig(n)
		if toBig(a).Cmp(n) != 0 {
			t.Fatalf("%x came to be %x", n, toBig(a))
		}
		l = append(l, a)
	}
	return l
}

func same(a, b nat.Nat) bool { return a.Cmp(b) == 0 && bytes.Equal(a.Least(), b.Least()) }

// isZeroValue holds what is answered beside an error, and each 0, against the zero value.
func isZeroValue(a nat.Nat) bool { return reflect.DeepEqual(a, nat.Nat{}) }

// P1.1

func TestNew(t *testing.T) {
	for _, n := range []uint64{0, 1, 2, 255, 256, math.MaxUint32, 1 << 32, 1<<32 + 1, 1 << 63, math.MaxUint64} {
		a := nat.New(n)
		if got, ok := a.Uint(); !ok || got != n {
			t.Errorf("New(%d): %d %v", n, got, ok)
		}
		if want := new(big.Int).SetUint64(n); toBig(a).Cmp(want) != 0 {
			t.Errorf("New(%d): %v", n, toBig(a))
		}
	}
	if !isZeroValue(nat.New(0)) {
		t.Error("New(0) isn't the zero value")
	}
}

func TestFromBytes(t *testing.T) {
	full := bytes.Repeat([]byte{0xff}, api.MaxBytes)
	one := make([]byte, api.MaxBytes)
	one[api.MaxBytes-1] = 1
	for _, b := range [][]byte{
		nil, {}, {0}, {0, 0, 0, 0, 0}, {1}, {0x80}, {1, 0}, {0, 1, 0}, {1, 2, 3}, {1, 2, 3, 4}, {1, 2, 3, 4, 5},
		{0, 0, 0, 0, 1, 2, 3, 4, 5, 6, 7, 8, 9}, full[1:], full, one, make([]byte, api.MaxBytes),
	} {
		a, e := nat.FromBytes(b)
		if want := new(big.Int).SetBytes(b); e != api.OK || toBig(a).Cmp(want) != 0 {
			t.Errorf("FromBytes(%x): %x, %d", b, toBig(a), e)
		}
	}
	for _, size := range []int{0, 1, 5, api.MaxBytes} {
		if a, _ := nat.FromBytes(make([]byte, size)); !isZeroValue(a) {
			t.Errorf("%d noughts: not the zero value", size)
		}
	}
}

func TestFromTooManyBytes(t *testing.T) {
	for _, b := range [][]byte{
		make([]byte, api.MaxBytes+1), bytes.Repeat([]byte{0xff}, api.MaxBytes+1), bytes.Repeat([]byte{7}, 10*api.MaxBytes),
	} {
		if a, e := nat.FromBytes(b); e != api.ErrLong || !isZeroValue(a) {
			t.Errorf("FromBytes of %d: %x, %d", len(b), toBig(a), e)
		}
	}
}

func TestBytes(t *testing.T) {
	for _, c := range []struct {
		n    uint64
		size int
		want []byte
		e    api.Errno
	}{
		{256, 3, []byte{0, 1, 0}, api.OK},
		{256, 2, []byte{1, 0}, api.OK},
		{256, 1, nil, api.ErrRange},
		{256, 0, nil, api.ErrRange},
		{256, -1, nil, api.ErrArg},
		{255, 1, []byte{255}, api.OK},
		{1, 0, nil, api.ErrRange},
		{1 << 32, 5, []byte{1, 0, 0, 0, 0}, api.OK},
		{1 << 32, 4, nil, api.ErrRange},
		{0, 0, nil, api.OK},
		{0, 3, []byte{0, 0, 0}, api.OK},
		{0, -1, nil, api.ErrArg},
		{0, math.MinInt, nil, api.ErrArg},
		{math.MaxUint64, math.MinInt, nil, api.ErrArg},
		{math.MaxUint64, 7, nil, api.ErrRange},
		{math.MaxUint64, 9, []byte{0, 255, 255, 255, 255, 255, 255, 255, 255}, api.OK},
	} {
		if b, e := nat.New(c.n).Bytes(c.size); e != c.e || !bytes.Equal(b, c.want) || e != api.OK && b != nil {
			t.Errorf("New(%d).Bytes(%d): %x, %d", c.n, c.size, b, e)
		}
	}
}

func TestBytesOfAnySize(t *testing.T) {
	for _, n := range someBig() {
		a, needed := fromBig(n), (n.BitLen()+7)/8
		for _, size := range []int{needed, needed + 1, needed + 4, needed + api.MaxBytes} {
			if b, e := a.Bytes(size); e != api.OK || !bytes.Equal(b, n.FillBytes(make([]byte, size))) {
				t.Errorf("%x as %d bytes: %x, %d", n, size, b, e)
			}
		}
		if b, e := a.Bytes(needed - 1); needed > 0 && e != api.ErrRange || b != nil {
			t.Errorf("%x as %d bytes: %x, %d", n, needed-1, b, e)
		}
	}
}

// More bytes than the document's bound: nothing is promised of the answer but that there is one.
func TestBytesBeyondTheBound(t *testing.T) {
	for _, a := range []nat.Nat{{}, nat.New(math.MaxUint64)} {
		if b, e := a.Bytes(math.MaxInt); e == api.OK || b != nil {
			t.Errorf("MaxInt bytes: %d of them, %d", len(b), e)
		}
	}
}

func TestLeast(t *testing.T) {
	if b := (nat.Nat{}).Least(); len(b) != 0 {
		t.Errorf("of 0: %x", b)
	}
	for _, n := range someBig() {
		if b := fromBig(n).Least(); !bytes.Equal(b, n.Bytes()) {
			t.Errorf("of %x: %x", n, b)
		}
	}
}

func TestUint(t *testing.T) {
	for _, n := range someBig() {
		want := uint64(0)
		if n.IsUint64() {
			want = n.Uint64()
		}
		if got, ok := fromBig(n).Uint(); ok != n.IsUint64() || got != want {
			t.Errorf("%x: %x, %v", n, got, ok)
		}
	}
	beyond := nat.New(math.MaxUint64).Add(nat.New(1))
	if got, ok := beyond.Uint(); ok || got != 0 {
		t.Errorf("2^64: %d, %v", got, ok)
	}
	if got, ok := (nat.Nat{}).Uint(); !ok || got != 0 {
		t.Errorf("0: %d, %v", got, ok)
	}
}

// P1.2

func TestCmp(t *testing.T) {
	l := someBig()
	for _, m := range l {
		for _, n := range l {
			if got := fromBig(m).Cmp(fromBig(n)); got != m.Cmp(n) {
				t.Errorf("%x, %x: %d", m, n, got)
			}
		}
	}
}

func TestZero(t *testing.T) {
	for _, n := range someBig() {
		if got := fromBig(n).Zero(); got != (n.Sign() == 0) {
			t.Errorf("%x: %v", n, got)
		}
	}
	if !(nat.Nat{}).Zero() {
		t.Error("the zero value isn't 0")
	}
}

func TestBits(t *testing.T) {
	for _, n := range someBig() {
		if got := fromBig(n).Bits(); got != n.BitLen() {
			t.Errorf("%x: %d", n, got)
		}
	}
	if got := (nat.Nat{}).Bits(); got != 0 {
		t.Errorf("0: %d", got)
	}
}

func TestBit(t *testing.T) {
	for _, n := range someBig() {
		a := fromBig(n)
		for i := range n.BitLen() + 70 {
			if got := a.Bit(i); got != int(n.Bit(i)) {
				t.Errorf("%x: bit %d is %d", n, i, got)
			}
		}
		for _, i := range []int{-1, -31, -32, -33, math.MinInt, math.MaxInt} {
			if got := a.Bit(i); got != 0 {
				t.Errorf("%x: bit %d is %d", n, i, got)
			}
		}
	}
}

// P1.3

func TestPairs(t *testing.T) {
	l := someBig()
	for _, m := range l {
		for _, n := range l {
			checkPair(t, m, n)
		}
	}
}

func checkPair(t *testing.T, m, n *big.Int) {
	t.Helper()
	a, b := fromBig(m), fromBig(n)
	if got, want := a.Add(b), new(big.Int).Add(m, n); toBig(got).Cmp(want) != 0 {
		t.Errorf("%x + %x: %x", m, n, toBig(got))
	}
	if got, want := a.Mul(b), new(big.Int).Mul(m, n); toBig(got).Cmp(want) != 0 {
		t.Errorf("%x * %x: %x", m, n, toBig(got))
	}
	if got, want := a.Gcd(b), new(big.Int).GCD(nil, nil, m, n); toBig(got).Cmp(want) != 0 {
		t.Errorf("Gcd of %x and %x: %x", m, n, toBig(got))
	}
	checkSub(t, m, n)
	checkDiv(t, m, n)
}

func checkSub(t *testing.T, m, n *big.Int) {
	t.Helper()
	got, ok := fromBig(m).Sub(fromBig(n))
	want := new(big.Int).Sub(m, n)
	if want.Sign() < 0 {
		if ok || !isZeroValue(got) {
			t.Errorf("%x - %x: %x, %v", m, n, toBig(got), ok)
		}
	} else if !ok || toBig(got).Cmp(want) != 0 {
		t.Errorf("%x - %x: %x, %v", m, n, toBig(got), ok)
	}
}

func checkDiv(t *testing.T, m, n *big.Int) {
	t.Helper()
	quotient, rest, e := fromBig(m).Div(fromBig(n))
	if n.Sign() == 0 {
		if e != api.ErrZero || !isZeroValue(quotient) || !isZeroValue(rest) {
			t.Errorf("%x by 0: %x, %x, %d", m, toBig(quotient), toBig(rest), e)
		}
		return
	}
	wantQuotient, wantRest := new(big.Int).QuoRem(m, n, new(big.Int))
	if e != api.OK || toBig(quotient).Cmp(wantQuotient) != 0 || toBig(rest).Cmp(wantRest) != 0 {
		t.Errorf("%x by %x: %x, %x, %d", m, n, toBig(quotient), toBig(rest), e)
	}
}

func TestExamples(t *testing.T) {
	quotient, rest, e := nat.New(7).Div(nat.New(2))
	if !same(quotient, nat.New(3)) || !same(rest, nat.New(1)) || e != api.OK {
		t.Error("7 by 2:", toBig(quotient), toBig(rest), e)
	}
	if got := nat.New(12).Gcd(nat.New(18)); !same(got, nat.New(6)) {
		t.Error("Gcd of 12 and 18:", toBig(got))
	}
}

func TestAbout64Bits(t *testing.T) {
	greatest, one := nat.New(math.MaxUint64), nat.New(1)
	if got := greatest.Add(one); !same(got, hex(t, "10000000000000000")) {
		t.Errorf("(2^64 - 1) + 1: %x", toBig(got))
	}
	if got, ok := greatest.Add(one).Sub(one); !ok || !same(got, greatest) {
		t.Errorf("2^64 - 1: %x, %v", toBig(got), ok)
	}
	if got := greatest.Mul(greatest); !same(got, hex(t, "fffffffffffffffe0000000000000001")) {
		t.Errorf("(2^64 - 1) * (2^64 - 1): %x", toBig(got))
	}
	quotient, rest, e := greatest.Mul(greatest).Add(one).Div(greatest)
	if e != api.OK || !same(quotient, greatest) || !same(rest, one) {
		t.Errorf("((2^64 - 1) * (2^64 - 1) + 1) by 2^64 - 1: %x, %x, %d", toBig(quotient), toBig(rest), e)
	}
}

func TestWithZero(t *testing.T) {
	zero := nat.Nat{}
	for _, a := range someNats(t) {
		if got := a.Add(zero); !same(got, a) {
			t.Errorf("%x + 0: %x", toBig(a), toBig(got))
		}
		if got := a.Mul(zero); !isZeroValue(got) {
			t.Errorf("%x * 0: %x", toBig(a), toBig(got))
		}
		if got, ok := a.Sub(a); !ok || !isZeroValue(got) {
			t.Errorf("%x less itself: %x, %v", toBig(a), toBig(got), ok)
		}
		if !same(a.Gcd(zero), a) || !same(zero.Gcd(a), a) {
			t.Errorf("Gcd of %x and 0: %x, %x", toBig(a), toBig(a.Gcd(zero)), toBig(zero.Gcd(a)))
		}
		if quotient, rest, e := a.Div(zero); e != api.ErrZero || !isZeroValue(quotient) || !isZeroValue(rest) {
			t.Errorf("%x by 0: %x, %x, %d", toBig(a), toBig(quotient), toBig(rest), e)
		}
	}
}

// Divisions whose guess is wrong at first: too great by one, by two, beyond a word, or found out only behind the subtraction.
func TestHardDivisions(t *testing.T) {
	for _, c := range [][2]string{
		{"800000000000000000000003", "200000000000000000000001"},
		{"8000000000000003", "2000000000000001"},
		{"80000000fffffffe00000000", "80000000ffff"},
		{"80000000fffffffe00000000", "800000000000ffff"},
		{"7fffffff800000000000000000000000", "800000000000000000000001"},
		{"800000000000fffe00000000", "800000000000ffff"},
		{"fffffffffffffffeffffffffffffffff", "ffffffffffffffff"},
		{"fffffffefffffffffffffffe00000000", "fffffffeffffffffffffffff"},
		{"8000000000000000fffffffffffffffe", "8000000000000000ffffffff"},
		{"ffffffff0000000000000000", "ffffffff00000001"},
		{"fffffffeffffffff", "ffffffff"},
		{"100000000", "ffffffff"},
	} {
		checkDiv(t, toBig(hex(t, c[0])), toBig(hex(t, c[1])))
	}
}

func TestDivisionsNearProducts(t *testing.T) {
	l := someBig()
	for _, divisor := range l {
		for _, quotient := range l {
			product := new(big.Int).Mul(divisor, quotient)
			for d := int64(-1); d <= 1; d++ {
				if m := new(big.Int).Add(product, big.NewInt(d)); m.Sign() >= 0 {
					checkDiv(t, m, divisor)
				}
			}
		}
	}
}

func TestGcdOfProducts(t *testing.T) {
	a, b := nat.New(1_000_003), nat.New(999_983) // two primes
	for _, c := range someNats(t) {
		if got := a.Mul(c).Gcd(b.Mul(c)); !same(got, c) {
			t.Errorf("Gcd of two multiples of %x: %x", toBig(c), toBig(got))
		}
	}
}

// P1.4

func TestLaws(t *testing.T) {
	l := someNats(t)
	for i, a := range l {
		b, c := l[(i*7+3)%len(l)], l[(i*5+11)%len(l)]
		if !same(a.Add(b), b.Add(a)) || !same(a.Mul(b), b.Mul(a)) {
			t.Errorf("the order of %x and %x counts", toBig(a), toBig(b))
		}
		if !same(a.Add(b).Add(c), a.Add(b.Add(c))) || !same(a.Mul(b).Mul(c), a.Mul(b.Mul(c))) {
			t.Errorf("the order of %x, %x and %x counts", toBig(a), toBig(b), toBig(c))
		}
		if !same(a.Mul(b.Add(c)), a.Mul(b).Add(a.Mul(c))) {
			t.Errorf("%x times the sum of %x and %x isn't the products' sum", toBig(a), toBig(b), toBig(c))
		}
		if quotient, rest, e := a.Div(b); e == api.OK && (!same(quotient.Mul(b).Add(rest), a) || rest.Cmp(b) >= 0) {
			t.Errorf("%x by %x: %x, %x", toBig(a), toBig(b), toBig(quotient), toBig(rest))
		}
		if difference, ok := a.Add(b).Sub(b); !ok || !same(difference, a) {
			t.Errorf("%x + %x - %x: %x, %v", toBig(a), toBig(b), toBig(b), toBig(difference), ok)
		}
	}
}

func TestNumbersStayAsTheyAre(t *testing.T) {
	l := someNats(t)
	for i, a := range l {
		b := l[(i*7+3)%len(l)]
		for _, pair := range [][2]nat.Nat{{a, b}, {b, a}, {a, a}} {
			before := [2][]byte{pair[0].Least(), pair[1].Least()}
			useAll(pair[0], pair[1])
			if !bytes.Equal(pair[0].Least(), before[0]) || !bytes.Equal(pair[1].Least(), before[1]) {
				t.Errorf("%x, %x became %x, %x", before[0], before[1], pair[0].Least(), pair[1].Least())
			}
		}
	}
}

func useAll(a, b nat.Nat) {
	a.Add(b)
	a.Sub(b)
	a.Mul(b)
	a.Div(b)
	a.Gcd(b)
	a.Cmp(b)
	a.Least()
	a.Bytes(a.Bits() + 1)
	a.Uint()
	a.Bit(1)
}

// What a number comes to must not hang on a later use of those that it came from.
func TestAnswersStayAsTheyAre(t *testing.T) {
	a, b := hex(t, "123456789abcdef0123456789"), hex(t, "fedcba98765")
	quotient, rest, _ := a.Div(b)
	small, _, _ := b.Div(a)
	_, whole, _ := b.Div(a)
	difference, _ := a.Sub(b)
	answers := []nat.Nat{a.Add(b), a.Mul(b), difference, quotient, rest, small, whole, a.Gcd(nat.Nat{})}
	var before [][]byte
	for _, x := range answers {
		before = append(before, x.Least())
	}
	for _, x := range answers {
		for _, y := range answers {
			useAll(x, y)
		}
	}
	for i, x := range answers {
		if !bytes.Equal(x.Least(), before[i]) {
			t.Errorf("answer %d: %x became %x", i, before[i], x.Least())
		}
	}
}

func TestBytesHandedIn(t *testing.T) {
	room := []byte{1, 2, 3, 4, 5, 6, 7, 8, 9}
	whole := slices.Clone(room)
	a, _ := nat.FromBytes(room[2:6])
	if !bytes.Equal(room, whole) {
		t.Errorf("changed: %x", room)
	}
	for i := range room {
		room[i] = 0xff
	}
	if !same(a, nat.New(0x03040506)) {
		t.Errorf("kept: %x", toBig(a))
	}
}

func TestBytesHandedOut(t *testing.T) {
	a := nat.New(0x0102030405)
	first, _ := a.Bytes(6)
	least := a.Least()
	for _, b := range [][]byte{first, least} {
		for i := range b[:cap(b)] {
			b[:cap(b)][i] = 0xff
		}
	}
	second, _ := a.Bytes(6)
	if !same(a, nat.New(0x0102030405)) || !bytes.Equal(second, []byte{0, 1, 2, 3, 4, 5}) || !bytes.Equal(a.Least(), second[1:]) {
		t.Errorf("an answer shares memory: %x, %x", toBig(a), second)
	}
}
