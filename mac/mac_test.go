package mac_test

import (
	"bytes"
	"crypto/hkdf"
	"crypto/hmac"
	"crypto/sha256"
	"encoding/hex"
	"math"
	"math/rand"
	"slices"
	"strings"
	"testing"

	"sacristy/api"
	"sacristy/mac"
)

// The library's own tags and keys are what ours are held against.

const mostBytes = 255 * 32

func wantTag(key, b []byte) []byte {
	h := hmac.New(sha256.New, key)
	h.Write(b)
	return h.Sum(nil)
}

func wantExpanded(t *testing.T, key, info []byte, n int) []byte {
	t.Helper()
	b, err := hkdf.Expand(sha256.New, key, string(info), n)
	if err != nil {
		t.Fatal(err)
	}
	return b
}

func wantDerived(t *testing.T, salt, secret, info []byte, n int) []byte {
	t.Helper()
	b, err := hkdf.Key(sha256.New, secret, salt, string(info), n)
	if err != nil {
		t.Fatal(err)
	}
	return b
}

// some: bytes of any look, the same ones each time.
func some(n int) []byte {
	b := make([]byte, n)
	rand.New(rand.NewSource(int64(n))).Read(b)
	return b
}

func unhex(t *testing.T, digits string) []byte {
	t.Helper()
	b, err := hex.DecodeString(strings.ReplaceAll(digits, " ", ""))
	if err != nil {
		t.Fatal(err)
	}
	return b
}

// keyLengths: about the end of a block, where a key's sum takes its place.
func keyLengths() []int { return []int{0, 1, 20, 31, 32, 33, 62, 63, 64, 65, 66, 127, 128, 129, 200} }

// lengths of what is expanded, about the ends of tags.
func lengths() []int {
	return []int{0, 1, 16, 31, 32, 33, 42, 63, 64, 65, 96, 1000, 4096, mostBytes - 33, mostBytes - 32, mostBytes - 31, mostBytes - 1, mostBytes}
}

func check(t *testing.T, what string, got, want []byte) {
	t.Helper()
	if !bytes.Equal(got, want) {
		t.Errorf("%s: %x, not %x", what, got, want)
	}
}

func expand(t *testing.T, key, info []byte, n int) []byte {
	t.Helper()
	b, errno := mac.Expand(key, info, n)
	if errno != api.OK || len(b) != n {
		t.Fatalf("Expand to %d bytes: %d bytes, error %d", n, len(b), errno)
	}
	return b
}

func derive(t *testing.T, salt, secret, info []byte, n int) []byte {
	t.Helper()
	b, errno := mac.Derive(salt, secret, info, n)
	if errno != api.OK || len(b) != n {
		t.Fatalf("Derive %d bytes: %d bytes, error %d", n, len(b), errno)
	}
	return b
}

// spoil overwrites bytes, and their spare room.
func spoil(b []byte) {
	b = b[:cap(b)]
	for i := range b {
		b[i] ^= 0xff
	}
}

// P4.1

// Those of RFC 4231 (its fifth is a tag cut short).
func TestKnownTags(t *testing.T) {
	aa, dd, cd := strings.Repeat("aa", 131), strings.Repeat("dd", 50), strings.Repeat("cd", 50)
	for _, c := range []struct{ key, text, tag string }{
		{strings.Repeat("0b", 20), hex.EncodeToString([]byte("Hi There")),
			"b0344c61d8db38535ca8afceaf0bf12b881dc200c9833da726e9376c2e32cff7"},
		{hex.EncodeToString([]byte("Jefe")), hex.EncodeToString([]byte("what do ya want for nothing?")),
			"5bdcc146bf60754e6a042426089575c75a003f089d2739839dec58b964ec3843"},
		{strings.Repeat("aa", 20), dd,
			"773ea91e36800e46854db8ebd09181a72959098b3ef8c122d9635514ced565fe"},
		{"0102030405060708090a0b0c0d0e0f10111213141516171819", cd,
			"82558a389a443c0ea4cc819899f2083a85f0faa3e578f8077a2e3ff46729665b"},
		{aa, hex.EncodeToString([]byte("Test Using Larger Than Block-Size Key - Hash Key First")),
			"60e431591ee0b67f0d8a26aacbf5b77f8e0bc6213728c5140546040f0ee37f54"},
		{aa, hex.EncodeToString([]byte("This is a test using a larger than block-size key and a larger than block-size data. The key needs to be hashed before being used by the HMAC algorithm.")),
			"9b09ffa71b942fcb27635fbcd5b0e944bfdc63644f0713938a7f51535c3a35e2"},
		{"", "", "b613679a0814d9ec772f95d778c35fc5ff1697c493715653c6c712144292c5ad"},
	} {
		check(t, "tag", mac.Tag(unhex(t, c.key), unhex(t, c.text)), unhex(t, c.tag))
	}
}

// Those of RFC 5869 that are made with this sum.
func TestKnownKeys(t *testing.T) {
	for _, c := range []struct {
		secret, salt, info string
		n                  int
		key, made          string
	}{
		{strings.Repeat("0b", 22), "000102030405060708090a0b0c", "f0f1f2f3f4f5f6f7f8f9", 42,
			"077709362c2e32df0ddc3f0dc47bba6390b6c73bb50f9c3122ec844ad7c2b3e5",
			"3cb25f25faacd57a90434f64d0362f2a2d2d0a90cf1a5a4c5db02d56ecc4c5bf34007208d5b887185865"},
		{rising(0x00, 80), rising(0x60, 80), rising(0xb0, 80), 82,
			"06a6b88c5853361a06104c9ceb35b45cef760014904671014a193f40c15fc244",
			"b11e398dc80327a1c8e7f78c596a49344f012eda2d4efad8a050cc4c19afa97c59045a99cac7827271cb41c65e590e09da3275600c2f09b8367793a9aca3db71cc30c58179ec3e87c14c01d5c1f3434f1d87"},
		{strings.Repeat("0b", 22), "", "", 42,
			"19ef24a32c717b167f33a91d6f648bdf96596776afdb6377ac434c1c293ccb04",
			"8da4e775a563c18f715f802a063c5a31b8a11f5c5ee1879ec3454e5f3c738d2d9d201395faa4b61a96c8"},
	} {
		secret, salt, info := unhex(t, c.secret), unhex(t, c.salt), unhex(t, c.info)
		key := mac.Extract(salt, secret)
		check(t, "Extract", key, unhex(t, c.key))
		check(t, "Expand", expand(t, key, info, c.n), unhex(t, c.made))
		check(t, "Derive", derive(t, salt, secret, info, c.n), unhex(t, c.made))
	}
}

// rising: so many bytes, each one greater than the one ahead.
func rising(first, n int) string {
	b := make([]byte, n)
	for i := range b {
		b[i] = byte(first + i)
	}
	return hex.EncodeToString(b)
}

func TestEachKeyLength(t *testing.T) {
	for n := range 200 {
		for _, key := range [][]byte{some(n), make([]byte, n), bytes.Repeat([]byte{0xff}, n), bytes.Repeat([]byte{0x36}, n), bytes.Repeat([]byte{0x5c}, n)} {
			for _, m := range []int{0, 1, 32, 55, 56, 64, 130} {
				check(t, "tag", mac.Tag(key, some(m)), wantTag(key, some(m)))
			}
		}
	}
}

func TestEachTextLength(t *testing.T) {
	for n := range 200 {
		check(t, "tag", mac.Tag(some(32), some(n)), wantTag(some(32), some(n)))
	}
	check(t, "tag", mac.Tag(some(4096), some(100_000)), wantTag(some(4096), some(100_000)))
}

// Each bit counts, of the key and of the text.
func TestEachBitOfATag(t *testing.T) {
	for _, n := range []int{32, 64, 100} {
		key, text := some(n), some(n+1)
		for _, b := range [][]byte{key, text} {
			for i := range 8 * len(b) {
				b[i/8] ^= 1 << (i % 8)
				check(t, "tag", mac.Tag(key, text), wantTag(key, text))
				b[i/8] ^= 1 << (i % 8)
			}
		}
	}
}

func TestParts(t *testing.T) {
	key, b := some(32), some(150)
	want := wantTag(key, b)
	for i := 0; i <= len(b); i += 3 {
		for k := i; k <= len(b); k += 7 {
			check(t, "three parts", mac.Tag(key, b[:i], b[i:k], b[k:]), want)
			check(t, "parts of nothing too", mac.Tag(key, nil, b[:i], []byte{}, b[i:k], nil, b[k:], nil), want)
		}
	}
	var single [][]byte
	for i := range b {
		single = append(single, b[i:i+1])
	}
	check(t, "single bytes", mac.Tag(key, single...), want)
	if bytes.Equal(mac.Tag(key, b[:70], b[70:]), mac.Tag(key, b[70:], b[:70])) {
		t.Error("the order of parts counts for nothing")
	}
}

func TestTagOfNothing(t *testing.T) {
	for _, n := range keyLengths() {
		key := some(n)
		for _, got := range [][]byte{mac.Tag(key), mac.Tag(key, nil...), mac.Tag(key, nil), mac.Tag(key, []byte{}), mac.Tag(key, nil, []byte{}, nil)} {
			check(t, "tag of nothing", got, wantTag(key, nil))
		}
	}
	for _, got := range [][]byte{mac.Tag(nil), mac.Tag([]byte{}), mac.Extract(nil, nil), mac.Extract([]byte{}, []byte{})} {
		check(t, "tag of nothing under nothing", got, wantTag(nil, nil))
	}
}

func TestSame(t *testing.T) {
	for n := range 70 {
		a := some(n)
		if !mac.Same(a, a) || !mac.Same(a, slices.Clone(a)) {
			t.Errorf("%d bytes: not the same", n)
		}
		for i := range 8 * n {
			b := slices.Clone(a)
			b[i/8] ^= 1 << (i % 8)
			if mac.Same(a, b) || mac.Same(b, a) {
				t.Errorf("%d bytes, unlike in bit %d alone: the same", n, i)
			}
		}
		for k := range n {
			if mac.Same(a, a[:k]) || mac.Same(a[:k], a) {
				t.Errorf("the same, of %d and %d bytes", n, k)
			}
		}
	}
}

// Unlike bytes that add up, or that cancel each other out.
func TestSameOfManyUnlike(t *testing.T) {
	for _, c := range []struct {
		a, b string
		same bool
	}{
		{"", "", true}, {"", "\x00", false}, {"\x00", "\x00\x00", false}, {"ab", "ba", false},
		{"\x01\x01", "\x00\x00", false}, {"\x80\x80", "\x00\x00", false}, {"\x00\xff", "\xff\x00", false}, {"\x01\xff", "\x00\x00", false},
		{strings.Repeat("\x01", 256), strings.Repeat("\x00", 256), false}, {strings.Repeat("\x01", 256), strings.Repeat("\x01", 256), true},
	} {
		if got := mac.Same([]byte(c.a), []byte(c.b)); got != c.same {
			t.Errorf("%x and %x: %v", c.a, c.b, got)
		}
	}
	if !mac.Same(nil, nil) || !mac.Same(nil, []byte{}) || !mac.Same([]byte{}, nil) {
		t.Error("nil and empty: not the same")
	}
	if mac.Same(nil, []byte{0}) || mac.Same([]byte{0}, nil) {
		t.Error("nil and a nought: the same")
	}
}

func TestExtract(t *testing.T) {
	for _, n := range keyLengths() {
		for _, m := range keyLengths() {
			check(t, "Extract", mac.Extract(some(n), some(m+1)), wantTag(some(n), some(m+1)))
		}
	}
}

func TestExpand(t *testing.T) {
	for _, n := range lengths() {
		for _, k := range keyLengths() {
			for _, info := range [][]byte{nil, {}, {0}, some(1), some(100)} {
				check(t, "Expand", expand(t, some(k), info, n), wantExpanded(t, some(k), info, n))
			}
		}
	}
}

func TestDerive(t *testing.T) {
	for _, n := range lengths() {
		for _, k := range keyLengths() {
			salt, secret, info := some(k), some(k+1), some(k+2)
			got := derive(t, salt, secret, info, n)
			check(t, "Derive", got, wantDerived(t, salt, secret, info, n))
			check(t, "Expand of Extract", expand(t, mac.Extract(salt, secret), info, n), got)
		}
		check(t, "Derive of nothing", derive(t, nil, nil, nil, n), wantDerived(t, nil, nil, nil, n))
	}
}

func TestErrors(t *testing.T) {
	for _, c := range []struct {
		n     int
		errno api.Errno
	}{
		{-1, api.ErrArg}, {-32, api.ErrArg}, {-mostBytes - 1, api.ErrArg}, {math.MinInt32, api.ErrArg}, {math.MinInt, api.ErrArg},
		{mostBytes + 1, api.ErrLong}, {mostBytes + 32, api.ErrLong}, {1 << 20, api.ErrLong}, {math.MaxInt32, api.ErrLong},
		{math.MaxInt - 31, api.ErrLong}, {math.MaxInt, api.ErrLong},
	} {
		for _, b := range [][]byte{nil, {}, some(32), some(65)} {
			if got, errno := mac.Expand(b, b, c.n); got != nil || errno != c.errno {
				t.Errorf("Expand to %d bytes: %d bytes, error %d", c.n, len(got), errno)
			}
			if got, errno := mac.Derive(b, b, b, c.n); got != nil || errno != c.errno {
				t.Errorf("Derive %d bytes: %d bytes, error %d", c.n, len(got), errno)
			}
		}
	}
}

// P4.2

func TestShorterIsABeginning(t *testing.T) {
	key, info := some(40), some(10)
	longest := expand(t, key, info, mostBytes)
	derived := derive(t, key, info, key, mostBytes)
	for n := 0; n < mostBytes; n += 1 + n/40 {
		check(t, "Expand", expand(t, key, info, n), longest[:n])
		check(t, "Derive", derive(t, key, info, key, n), derived[:n])
	}
}

func TestNoughtsBehindAKey(t *testing.T) {
	for n := range 64 {
		key, text := some(n), some(50)
		for k := n + 1; k <= 64; k++ {
			longer := append(slices.Clone(key), make([]byte, k-n)...)
			check(t, "Tag", mac.Tag(longer, text), mac.Tag(key, text))
			check(t, "Extract", mac.Extract(longer, text), mac.Extract(key, text))
			check(t, "Expand", expand(t, longer, text, 70), expand(t, key, text, 70))
			check(t, "Derive", derive(t, longer, text, key, 70), derive(t, key, text, key, 70))
		}
		// Beyond the block it is another key: its sum takes its place.
		if bytes.Equal(mac.Tag(append(slices.Clone(key), make([]byte, 65-n)...), text), mac.Tag(key, text)) {
			t.Errorf("a key of %d bytes: the same with noughts beyond its block", n)
		}
	}
}

// asked: what each call answers of these bytes.
func asked(t *testing.T, key, text, info []byte) [][]byte {
	t.Helper()
	return [][]byte{
		mac.Tag(key, text, info), mac.Extract(key, text),
		expand(t, key, info, 0), expand(t, key, info, 33), expand(t, key, info, 64), derive(t, key, text, info, 45),
	}
}

func TestBytesHandedIn(t *testing.T) {
	for _, n := range keyLengths() {
		key, text, info := some(n + 90)[:n], some(n + 91)[:n], some(n + 92)[:n]
		rooms := [][]byte{key[:cap(key)], text[:cap(text)], info[:cap(info)]}
		var wholes [][]byte
		for _, room := range rooms {
			wholes = append(wholes, slices.Clone(room))
		}
		answers := asked(t, key, text, info)
		mac.Same(key, text)
		for i, room := range rooms {
			check(t, "bytes handed in", room, wholes[i])
		}
		again := asked(t, slices.Clone(key), slices.Clone(text), slices.Clone(info))
		for _, room := range rooms {
			spoil(room)
		}
		for i, got := range answers {
			check(t, "answer, what was handed in spoilt", got, again[i])
		}
	}
}

func TestPartsHandedIn(t *testing.T) {
	room := [][]byte{some(5), some(70), nil, some(3), some(9)}
	whole := slices.Clone(room)
	check(t, "Tag", mac.Tag(some(32), room[:4]...), wantTag(some(32), slices.Concat(some(5), some(70), some(3))))
	for i := range room {
		if !bytes.Equal(room[i], whole[i]) || (room[i] == nil) != (whole[i] == nil) {
			t.Errorf("part %d: changed", i)
		}
	}
}

func TestAnswersAreNewMemory(t *testing.T) {
	for _, n := range keyLengths() {
		want := asked(t, some(n), some(n+1), some(n+2))
		first, second := asked(t, some(n), some(n+1), some(n+2)), asked(t, some(n), some(n+1), some(n+2))
		for _, got := range first {
			spoil(got)
		}
		third := asked(t, some(n), some(n+1), some(n+2))
		for i := range want {
			check(t, "answer, another one spoilt", second[i], want[i])
			check(t, "answer behind spoilt ones", third[i], want[i])
		}
	}
}

// One memory handed in as all arguments, a part of an answer among them.
func TestSharedArguments(t *testing.T) {
	for _, n := range keyLengths() {
		b := some(n)
		check(t, "Tag", mac.Tag(b, b, b), wantTag(b, slices.Concat(b, b)))
		check(t, "Derive", derive(t, b, b, b, 77), wantDerived(t, b, b, b, 77))
		made := expand(t, b, b, 80)
		check(t, "Expand of what was expanded", expand(t, made[:32], made[16:], 80), wantExpanded(t, made[:32], made[16:], 80))
	}
}

// What is cut off of the last tag isn't in reach behind the answer.
func TestExpandedHasItsOwnBound(t *testing.T) {
	for _, n := range lengths() {
		if got := expand(t, some(32), nil, n); cap(got) != n {
			t.Errorf("Expand to %d bytes: room for %d", n, cap(got))
		}
		if got := derive(t, some(32), some(3), nil, n); cap(got) != n {
			t.Errorf("Derive %d bytes: room for %d", n, cap(got))
		}
	}
}
