package sha_test

import (
	"bytes"
	"crypto/sha256"
	"encoding/hex"
	"math/rand"
	"slices"
	"strings"
	"testing"

	"sacristy/sha"
)

// The library's own sum is what ours is held against.

func want(b []byte) []byte {
	sum := sha256.Sum256(b)
	return sum[:]
}

// some: bytes of any look, the same ones each time.
func some(n int) []byte {
	b := make([]byte, n)
	rand.New(rand.NewSource(int64(n))).Read(b)
	return b
}

// edges: lengths about the ends of blocks, and about where the number of bits needs a block more.
func edges() []int {
	var l []int
	for blocks := range 4 {
		for _, n := range []int{0, 1, 8, 9, 32, 54, 55, 56, 57, 62, 63} {
			l = append(l, 64*blocks+n)
		}
	}
	return append(l, 4095, 4096, 4097)
}

func check(t *testing.T, got, b []byte) {
	t.Helper()
	if !bytes.Equal(got, want(b)) {
		t.Errorf("sum of %d bytes: %x, not %x", len(b), got, want(b))
	}
}

// P3.1

func TestKnownSums(t *testing.T) {
	for _, c := range []struct{ text, sum string }{
		{"", "e3b0c44298fc1c149afbf4c8996fb92427ae41e4649b934ca495991b7852b855"},
		{"abc", "ba7816bf8f01cfea414140de5dae2223b00361a396177a9cb410ff61f20015ad"},
		{"abcdbcdecdefdefgefghfghighijhijkijkljklmklmnlmnomnopnopq", "248d6a61d20638b8e5c026930c3e6039a33ce45964ff2167f6ecedd419db06c1"},
		{strings.Repeat("a", 1_000_000), "cdc76e5c9914fb9281a1c7e284d73e67f1809a48a497200e046d39ccc7112cd0"},
	} {
		h := sha.New()
		h.Add([]byte(c.text))
		for _, got := range [][]byte{sha.Sum([]byte(c.text)), h.Sum(), h.Copy().Sum()} {
			if hex.EncodeToString(got) != c.sum {
				t.Errorf("sum of %.20q (%d bytes): %x", c.text, len(c.text), got)
			}
		}
	}
}

func TestEachLength(t *testing.T) {
	for n := range 4*64 + 1 {
		for _, b := range [][]byte{make([]byte, n), bytes.Repeat([]byte{0xff}, n), bytes.Repeat([]byte{0x80}, n), some(n)} {
			check(t, sha.Sum(b), b)
		}
	}
	for _, n := range edges() {
		check(t, sha.Sum(some(n)), some(n))
	}
}

// Each bit counts, wherever in a block it stands.
func TestEachBit(t *testing.T) {
	b := some(130)
	for i := range 8 * len(b) {
		b[i/8] ^= 1 << (i % 8)
		check(t, sha.Sum(b), b)
		b[i/8] ^= 1 << (i % 8)
	}
}

func TestNothing(t *testing.T) {
	h := sha.New()
	h.Add(nil)
	h.Add([]byte{})
	for _, got := range [][]byte{
		sha.Sum(), sha.Sum(nil...), sha.Sum(nil), sha.Sum([]byte{}), sha.Sum(nil, []byte{}, nil), sha.New().Sum(), sha.New().Copy().Sum(), h.Sum(),
	} {
		check(t, got, nil)
	}
}

func TestParts(t *testing.T) {
	b := some(200)
	for i := 0; i <= len(b); i += 7 {
		for k := i; k <= len(b); k += 5 {
			check(t, sha.Sum(b[:i], b[i:k], b[k:]), b)
			check(t, sha.Sum(nil, b[:i], nil, []byte{}, b[i:k], b[k:], nil), b)
		}
	}
	var single [][]byte
	for i := range b {
		single = append(single, b[i:i+1])
	}
	check(t, sha.Sum(single...), b)
	if bytes.Equal(sha.Sum(b[:100], b[100:]), sha.Sum(b[100:], b[:100])) {
		t.Error("the order of parts counts for nothing")
	}
}

// Above 2^32 bits their number needs more than four of its eight bytes.
func TestManyBytes(t *testing.T) {
	part := some(1<<20 + 1)
	h, library := sha.New(), sha256.New()
	for range 512 {
		h.Add(part)
		library.Write(part)
	}
	if got := h.Sum(); !bytes.Equal(got, library.Sum(nil)) {
		t.Errorf("%x", got)
	}
}

func TestSumGoesOn(t *testing.T) {
	h := sha.New()
	var sofar []byte
	for _, n := range edges() {
		part := some(n)
		h.Add(part)
		sofar = append(sofar, part...)
		check(t, h.Sum(), sofar)
		check(t, h.Sum(), sofar)
	}
}

func TestCopyIsApart(t *testing.T) {
	for _, n := range edges() {
		b, left, right := some(n), some(71), some(130)
		h := sha.New()
		h.Add(b)
		apart := h.Copy()
		h.Add(left)
		check(t, apart.Sum(), b)
		apart.Add(right)
		further := apart.Copy()
		further.Add(left)
		check(t, h.Sum(), slices.Concat(b, left))
		check(t, apart.Sum(), slices.Concat(b, right))
		check(t, further.Sum(), slices.Concat(b, right, left))
		h.Add(right)
		check(t, h.Sum(), slices.Concat(b, left, right))
		check(t, apart.Sum(), slices.Concat(b, right))
	}
}

func TestHashesAreApart(t *testing.T) {
	one, other := sha.New(), sha.New()
	one.Add(some(100))
	check(t, other.Sum(), nil)
	other.Add(some(65))
	check(t, one.Sum(), some(100))
	check(t, other.Sum(), some(65))
	check(t, sha.New().Sum(), nil)
}

func TestNilHash(t *testing.T) {
	var h *sha.Hash
	for _, b := range [][]byte{nil, {}, {1}, some(64), some(1000)} {
		h.Add(b)
		if got := h.Sum(); got != nil {
			t.Errorf("Sum: %x", got)
		}
		if got := h.Copy(); got != nil {
			t.Errorf("Copy: %v", got)
		}
	}
}

// P3.2

func TestEachCut(t *testing.T) {
	b := some(3*64 + 9)
	for i := range len(b) + 1 {
		for k := i; k <= len(b); k++ {
			h := sha.New()
			h.Add(b[:i])
			h.Add(b[i:k])
			h.Add(b[k:])
			check(t, h.Sum(), b)
		}
	}
}

func TestAnyCuts(t *testing.T) {
	random := rand.New(rand.NewSource(1))
	for _, most := range []int{1, 2, 9, 63, 64, 65, 127, 128, 129, 400} {
		for range 20 {
			checkCuts(t, random, some(2000), most)
		}
	}
}

// checkCuts adds parts of any length up to most, now and then asks, and now and then goes on with a copy.
func checkCuts(t *testing.T, random *rand.Rand, b []byte, most int) {
	t.Helper()
	h := sha.New()
	for at := 0; at < len(b); {
		n := min(random.Intn(most+1), len(b)-at)
		h.Add(b[at : at+n])
		at += n
		switch random.Intn(6) {
		case 0:
			check(t, h.Sum(), b[:at])
		case 1:
			h = h.Copy()
		}
	}
	check(t, h.Sum(), b)
}

func TestBytesHandedIn(t *testing.T) {
	for _, n := range edges() {
		room := some(n + 200)
		whole, b := slices.Clone(room), slices.Clone(room[:n])
		h := sha.New()
		h.Add(room[:n])
		apart := h.Copy()
		check(t, sha.Sum(room[:n]), b)
		check(t, sha.Sum(room[:n/2], room[n/2:n]), b)
		check(t, h.Sum(), b)
		if !bytes.Equal(room, whole) {
			t.Errorf("%d bytes: changed", n)
		}
		for i := range room {
			room[i] ^= 0xff
		}
		check(t, h.Sum(), b)
		check(t, apart.Sum(), b)
	}
}

func TestPartsHandedIn(t *testing.T) {
	room := [][]byte{some(5), some(70), nil, some(3), some(9)}
	whole := slices.Clone(room)
	check(t, sha.Sum(room[:4]...), slices.Concat(some(5), some(70), some(3)))
	for i := range room {
		if !bytes.Equal(room[i], whole[i]) || (room[i] == nil) != (whole[i] == nil) {
			t.Errorf("part %d: changed", i)
		}
	}
}

func TestAnswersAreNewMemory(t *testing.T) {
	for _, n := range edges() {
		b := some(n)
		h := sha.New()
		h.Add(b)
		apart := h.Copy()
		for _, got := range [][]byte{h.Sum(), apart.Sum(), sha.Sum(b)} {
			spoil(got)
		}
		check(t, h.Sum(), b)
		check(t, apart.Sum(), b)
		check(t, sha.Sum(b), b)
		first, second := h.Sum(), h.Sum()
		spoil(first)
		check(t, second, b)
		h.Add(second)
		check(t, second, b)
		check(t, h.Sum(), slices.Concat(b, second))
	}
}

// spoil overwrites an answer, and its spare room.
func spoil(b []byte) {
	b = b[:cap(b)]
	for i := range b {
		b[i] ^= 0xff
	}
}
