package tag_test

import (
	"bytes"
	"encoding/hex"
	"math/big"
	"math/bits"
	"math/rand"
	"slices"
	"strings"
	"sync"
	"testing"

	"sacristy/api"
	"sacristy/tag"
)

// Go's library has no such tag to import: ours is held against RFC 8439's examples, and against one that is written another way below.

const partBytes = 16

func power(n uint) *big.Int { return new(big.Int).Lsh(big.NewInt(1), n) }

func prime() *big.Int { return new(big.Int).Sub(power(130), big.NewInt(5)) }

// fromLowest: the number of bytes, byte for byte, the lowest first.
func fromLowest(b []byte) *big.Int {
	n := new(big.Int)
	for i, x := range b {
		n.Add(n, new(big.Int).Lsh(big.NewInt(int64(x)), uint(8*i)))
	}
	return n
}

func toLowest(n *big.Int, size int) []byte {
	b := n.FillBytes(make([]byte, size))
	slices.Reverse(b)
	return b
}

// wantTag takes the parts from the last one on, each times a power of r of its own, and takes the prime out but once.
func wantTag(key, b []byte) []byte {
	mask, _ := new(big.Int).SetString("0ffffffc0ffffffc0ffffffc0fffffff", 16)
	r := new(big.Int).And(fromLowest(key[:16]), mask)
	sum, times := new(big.Int), new(big.Int).Set(r)
	for end := len(b); end > 0; {
		at := (end - 1) / partBytes * partBytes
		n := new(big.Int).Add(fromLowest(b[at:end]), power(uint(8*(end-at))))
		sum.Add(sum, n.Mul(n, times))
		times = new(big.Int).Mod(new(big.Int).Mul(times, r), prime())
		end = at
	}
	sum.Mod(sum, prime())
	sum.Add(sum, fromLowest(key[16:]))
	return toLowest(sum.Mod(sum, power(128)), 16)
}

// some: bytes of any look, the same ones each time.
func some(n int) []byte {
	b := make([]byte, n)
	rand.New(rand.NewSource(int64(n))).Read(b)
	return b
}

func someKey() []byte { return some(api.KeySize) }

func full(n int) []byte { return bytes.Repeat([]byte{0xff}, n) }

// small: a key with a small r, and noughts as s.
func small(r byte) []byte { return append([]byte{r}, make([]byte, 31)...) }

func unhex(t *testing.T, digits string) []byte {
	t.Helper()
	b, err := hex.DecodeString(strings.ReplaceAll(digits, " ", ""))
	if err != nil {
		t.Fatal(err)
	}
	return b
}

// lengths about the ends of parts.
func lengths() []int {
	return []int{0, 1, 2, 15, 16, 17, 31, 32, 33, 47, 48, 49, 63, 64, 65, 255, 256, 257, 1000, 4095, 4096, 4097}
}

func check(t *testing.T, what string, got, want []byte) {
	t.Helper()
	if !bytes.Equal(got, want) {
		t.Errorf("%s: %x, not %x", what, got, want)
	}
}

func of(t *testing.T, key, b []byte) []byte {
	t.Helper()
	made, errno := tag.Of(key, b)
	if errno != api.OK || len(made) != api.TagSize {
		t.Fatalf("Of %d bytes: %d bytes, error %d", len(b), len(made), errno)
	}
	return made
}

// spoil overwrites bytes, and their spare room.
func spoil(b []byte) {
	b = b[:cap(b)]
	for i := range b {
		b[i] ^= 0xff
	}
}

// P6.1

const (
	contribution = `Any submission to the IETF intended by the Contributor for publication as all or part of an IETF Internet-Draft or RFC and any statement made within the context of an IETF activity is considered an "IETF Contribution". Such statements include oral statements in IETF sessions, as well as written and electronic communications made at any time or place, which are addressed to`
	slithy       = "'Twas brillig, and the slithy toves\nDid gyre and gimble in the wabe:\nAll mimsy were the borogoves,\nAnd the mome raths outgrabe."
)

// Those of RFC 8439's section 2.5.2 and of its appendix A.3.
func TestKnownTags(t *testing.T) {
	noughts := strings.Repeat("00", 16)
	ones := strings.Repeat("ff", 16)
	one, two := "01"+noughts[:30], "02"+noughts[:30]
	long := "0100000000000000 0400000000000000" // r of A.3's last two
	for _, c := range []struct{ r, s, text, tag string }{
		{"85d6be7857556d337f4452fe42d506a8", "0103808afb0db2fd4abff6af4149f51b", "Cryptographic Forum Research Group", "a8061dc1305136c6c22b8baf0c0127a9"},
		{noughts, noughts, string(make([]byte, 64)), noughts},
		{noughts, "36e5f6b5c5e06070f0efca96227a863e", contribution, "36e5f6b5c5e06070f0efca96227a863e"},
		{"36e5f6b5c5e06070f0efca96227a863e", noughts, contribution, "f3477e7cd95417af89a6b8794c310cf0"},
		{"1c9240a5eb55d38af333888604f6b5f0", "473917c1402b80099dca5cbc207075c0", slithy, "4541669a7eaaee61e708dc7cbcc5eb62"},
		{two, noughts, string(unhex(t, ones)), "03" + noughts[:30]},
		{two, ones, string(unhex(t, two)), "03" + noughts[:30]},
		{one, noughts, string(unhex(t, ones+"f0"+ones[:30]+"11"+noughts[:30])), "05" + noughts[:30]},
		{one, noughts, string(unhex(t, ones+"fb"+strings.Repeat("fe", 15)+strings.Repeat("01", 16))), noughts},
		{two, noughts, string(unhex(t, "fd"+ones[:30])), "fa" + ones[:30]},
		{long, noughts, string(unhex(t, "e33594d7505e43b9 0000000000000000 3394d7505e4379cd 0100000000000000"+noughts+one)), "14000000000000005500000000000000"},
		{long, noughts, string(unhex(t, "e33594d7505e43b9 0000000000000000 3394d7505e4379cd 0100000000000000"+noughts)), "13" + noughts[:30]},
	} {
		key, want := unhex(t, c.r+c.s), unhex(t, c.tag)
		check(t, "tag", of(t, key, []byte(c.text)), want)
		check(t, "the test's own tag", wantTag(key, []byte(c.text)), want)
	}
}

func TestEachLength(t *testing.T) {
	for n := range 10*partBytes + 2 {
		for _, key := range [][]byte{someKey(), full(32), small(1), small(2)} {
			for _, b := range [][]byte{make([]byte, n), full(n), some(n)} {
				check(t, "tag", of(t, key, b), wantTag(key, b))
			}
		}
	}
	for _, n := range lengths() {
		check(t, "tag", of(t, someKey(), some(n)), wantTag(someKey(), some(n)))
	}
	b := some(100_003)
	check(t, "tag of many bytes", of(t, someKey(), b), wantTag(someKey(), b))
}

// Each bit of the key, set and not: those that r has, those that count as 0, and those of s.
func TestEachBitOfTheKey(t *testing.T) {
	for _, base := range [][]byte{someKey(), make([]byte, 32), full(32)} {
		b := some(50)
		whole := of(t, base, b)
		for i := range 8 * len(base) {
			key := slices.Clone(base)
			key[i/8] ^= 1 << (i % 8)
			got := of(t, key, b)
			check(t, "tag", got, wantTag(key, b))
			if same := bytes.Equal(got, whole); same != countsAsNought(i/8, i%8) {
				t.Errorf("bit %d of byte %d changed: the same tag: %v", i%8, i/8, same)
			}
		}
	}
}

func countsAsNought(at, bit int) bool {
	switch at {
	case 3, 7, 11, 15:
		return bit >= 4
	case 4, 8, 12:
		return bit < 2
	}
	return false
}

func TestEachBitOfTheMessage(t *testing.T) {
	key := someKey()
	for _, n := range []int{1, 16, 39} {
		b := some(n)
		whole := of(t, key, b)
		for i := range 8 * n {
			b[i/8] ^= 1 << (i % 8)
			got := of(t, key, b)
			check(t, "tag", got, wantTag(key, b))
			if bytes.Equal(got, whole) {
				t.Errorf("bit %d of %d bytes changed: the same tag", i, n)
			}
			b[i/8] ^= 1 << (i % 8)
		}
	}
}

func TestTagsOfAnyLook(t *testing.T) {
	random := rand.New(rand.NewSource(6))
	for range 1000 {
		key, b := make([]byte, 32), make([]byte, random.Intn(130))
		random.Read(key)
		random.Read(b)
		check(t, "tag", of(t, key, b), wantTag(key, b))
	}
}

// With r = 1 the parts are added up, so that a is told just below, at, and above the prime, and often round it.
func TestAboutThePrime(t *testing.T) {
	for times := range int64(4) {
		for off := int64(-20); off <= 20; off++ {
			sum := new(big.Int).Mul(prime(), big.NewInt(times+1))
			sum.Add(sum, big.NewInt(off))
			b := partsOf(t, sum)
			check(t, "tag about the prime", of(t, small(1), b), wantTag(small(1), b))
			rest := sum.Mod(sum, prime())
			check(t, "what is left of the sum", of(t, small(1), b), toLowest(rest.Mod(rest, power(128)), 16))
		}
	}
}

// partsOf: whole parts which, each with the 1 behind it, come to a sum.
func partsOf(t *testing.T, sum *big.Int) []byte {
	t.Helper()
	var b []byte
	left := new(big.Int).Set(sum)
	for parts := new(big.Int).Rsh(sum, 128).Int64(); parts > 0; parts-- {
		// Each takes as much as leaves a 2^128 for each of those behind it.
		most := new(big.Int).Sub(left, new(big.Int).Mul(power(128), big.NewInt(parts)))
		if greatest := new(big.Int).Sub(power(128), big.NewInt(1)); most.Cmp(greatest) > 0 {
			most = greatest
		}
		b = append(b, toLowest(most, 16)...)
		left.Sub(left, most.Add(most, power(128)))
	}
	if left.Sign() != 0 {
		t.Fatalf("parts leave %v", left)
	}
	return b
}

// Beyond 128 bits nothing is left, of a nor of what s adds.
func TestLowestBits(t *testing.T) {
	for _, last := range []byte{0, 1, 2, 0x7f, 0x80, 0xfe, 0xff} {
		for off := range byte(6) {
			for _, s := range [][]byte{make([]byte, 16), full(16), append(full(15), last), append([]byte{last}, make([]byte, 15)...)} {
				for _, b := range [][]byte{nil, {off}, append([]byte{0xfa + off}, full(15)...), append([]byte{0xfa + off}, full(31)...)} {
					key := append(small(1)[:16], s...)
					check(t, "tag", of(t, key, b), wantTag(key, b))
				}
			}
		}
	}
	// 1 and 2^128 - 1 come to 2^128.
	key := append(small(1)[:16], full(16)...)
	check(t, "2^128", of(t, key, append([]byte{1}, make([]byte, 15)...)), make([]byte, 16))
}

// A shorter last part ends with its 1, not with noughts.
func TestNoughtsBehindCount(t *testing.T) {
	for n := range 3*partBytes + 1 {
		var seen [][]byte
		for more := range 2 * partBytes {
			got := of(t, someKey(), append(some(n), make([]byte, more)...))
			for i, other := range seen {
				if bytes.Equal(got, other) {
					t.Errorf("%d bytes with %d noughts behind, and with %d: one tag", n, more, i)
				}
			}
			seen = append(seen, got)
		}
	}
	check(t, "a 1 where there was none", of(t, small(1), []byte{5}), append([]byte{5, 1}, make([]byte, 14)...))
	check(t, "a 1 behind 15 bytes", of(t, small(1), make([]byte, 15)), append(make([]byte, 15), 1))
}

func TestErrors(t *testing.T) {
	for n := range 130 {
		if n != api.KeySize {
			checkRefused(t, some(n))
		}
	}
	checkRefused(t, nil)
	checkRefused(t, []byte{})
	checkRefused(t, some(4096))
	// It is the length that counts, not the room.
	checkRefused(t, some(64)[:31])
	checkRefused(t, some(32)[:0])
	checkRefused(t, some(32)[:16])
}

func checkRefused(t *testing.T, key []byte) {
	t.Helper()
	for _, b := range [][]byte{nil, {}, some(1), some(32), some(200)} {
		if made, errno := tag.Of(key, b); made != nil || errno != api.ErrArg {
			t.Errorf("Of %d bytes, key of %d: %x, error %d", len(b), len(key), made, errno)
		}
	}
}

// P6.2

func TestTagOfNothing(t *testing.T) {
	for _, key := range [][]byte{someKey(), make([]byte, 32), full(32), small(1), append(full(16), some(16)...)} {
		check(t, "tag of nil", of(t, key, nil), key[16:])
		check(t, "tag of no bytes", of(t, key, []byte{}), key[16:])
		check(t, "tag of none of many bytes", of(t, key, some(100)[:0]), key[16:])
	}
}

// r is 0 too where only such bits of it are set as count as 0.
func TestNoughtAsFactor(t *testing.T) {
	unseen := make([]byte, 16)
	for i := range unseen {
		for bit := range 8 {
			if countsAsNought(i, bit) {
				unseen[i] |= 1 << bit
			}
		}
	}
	for _, r := range [][]byte{make([]byte, 16), unseen} {
		for _, s := range [][]byte{make([]byte, 16), full(16), some(16)} {
			for _, n := range lengths() {
				key := slices.Concat(r, s)
				check(t, "tag with r = 0", of(t, key, some(n)), s)
				check(t, "tag with r = 0", of(t, key, full(n)), s)
			}
		}
	}
}

func TestBytesHandedIn(t *testing.T) {
	for _, n := range lengths() {
		keyRoom, room := full(120), full(n+150)
		key, b := keyRoom[:32], room[:n]
		want := wantTag(key, b)
		got := of(t, key, b)
		check(t, "key handed in", keyRoom, full(120))
		check(t, "bytes handed in", room, full(n+150))
		spoil(keyRoom)
		spoil(room)
		check(t, "tag, what was handed in spoilt", got, want)
	}
}

func TestRefusedBytesStay(t *testing.T) {
	key, b := full(31), full(100)
	tag.Of(key, b)
	check(t, "key handed in", key, full(31))
	check(t, "bytes handed in", b, full(100))
}

func TestAnswersAreNewMemory(t *testing.T) {
	for _, n := range lengths() {
		key, b := someKey(), some(n)
		want := wantTag(key, b)
		first, second := of(t, key, b), of(t, key, b)
		spoil(first)
		check(t, "key handed in, an answer spoilt", key, someKey())
		check(t, "bytes handed in, an answer spoilt", b, some(n))
		check(t, "tag, another one spoilt", second, want)
		check(t, "tag behind a spoilt one", of(t, key, b), want)
	}
}

// One memory handed in as both arguments.
func TestSharedArguments(t *testing.T) {
	room := some(64)
	check(t, "tag of the key", of(t, room[:32], room[:32]), wantTag(some(64)[:32], some(64)[:32]))
	check(t, "tag of what overlaps", of(t, room[9:41], room[20:55]), wantTag(some(64)[9:41], some(64)[20:55]))
	check(t, "what was handed in", room, some(64))
}

// What was asked ahead, or is asked meanwhile, tells nothing on what is asked now.
func TestCallsAreApart(t *testing.T) {
	want := of(t, someKey(), some(40))
	other := of(t, full(32), some(300))
	tag.Of(nil, some(3))
	check(t, "tag asked again", of(t, someKey(), some(40)), want)
	if n := onesApart(want, other); n < 30 || n > 98 {
		t.Errorf("tags of two keys: %d bits of 128 unlike", n)
	}
	var all sync.WaitGroup
	for range 8 {
		all.Go(func() {
			for range 50 {
				if got, errno := tag.Of(someKey(), some(40)); errno != api.OK || !bytes.Equal(got, want) {
					t.Errorf("tag asked meanwhile: %x, error %d, not %x", got, errno, want)
				}
			}
		})
	}
	all.Wait()
}

func onesApart(a, b []byte) int {
	n := 0
	for i := range a {
		n += bits.OnesCount8(a[i] ^ b[i])
	}
	return n
}
