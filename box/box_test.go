package box_test

import (
	"bytes"
	"encoding/binary"
	"encoding/hex"
	"math/bits"
	"math/rand"
	"slices"
	"strings"
	"sync"
	"testing"

	"sacristy/api"
	"sacristy/box"
	"sacristy/stream"
	"sacristy/tag"
)

// Go's library has no such box to import: ours is held against RFC 8439's examples, and against one that is written another way below, of stream's and tag's calls, which their own tests hold.

const partBytes = 16

// wantSealed goes byte by byte: each has its own place in a block of the stream, and the tag's bytes are gathered as they come.
func wantSealed(t *testing.T, key, nonce, side, b []byte) []byte {
	t.Helper()
	var made []byte
	var block []byte
	for i, x := range b {
		if i%64 == 0 {
			block = blockOf(t, key, uint32(i/64)+1, nonce)
		}
		made = append(made, x^block[i%64])
	}
	var told bytes.Buffer
	for _, part := range [][]byte{side, made} {
		told.Write(part)
		for told.Len()%partBytes != 0 {
			told.WriteByte(0)
		}
	}
	sizes := make([]byte, 16)
	binary.LittleEndian.PutUint64(sizes, uint64(len(side)))
	binary.LittleEndian.PutUint64(sizes[8:], uint64(len(made)))
	told.Write(sizes)
	sum, errno := tag.Of(blockOf(t, key, 0, nonce)[:32], told.Bytes())
	if errno != api.OK {
		t.Fatalf("tag: error %d", errno)
	}
	return append(made, sum...)
}

func blockOf(t *testing.T, key []byte, counter uint32, nonce []byte) []byte {
	t.Helper()
	b, errno := stream.Block(key, counter, nonce)
	if errno != api.OK {
		t.Fatalf("block: error %d", errno)
	}
	return b
}

// some: bytes of any look, the same ones each time.
func some(n int) []byte {
	b := make([]byte, n)
	rand.New(rand.NewSource(int64(n))).Read(b)
	return b
}

func someKey() []byte   { return some(api.KeySize) }
func someNonce() []byte { return some(api.NonceSize) }
func someSide() []byte  { return some(21) }

func full(n int) []byte { return bytes.Repeat([]byte{0xff}, n) }

func unhex(t *testing.T, digits string) []byte {
	t.Helper()
	b, err := hex.DecodeString(strings.ReplaceAll(digits, " ", ""))
	if err != nil {
		t.Fatal(err)
	}
	return b
}

// lengths about the ends of the tag's parts, of the stream's blocks, and of a length's first byte.
func lengths() []int {
	return []int{0, 1, 2, 12, 15, 16, 17, 31, 32, 33, 47, 48, 49, 63, 64, 65, 127, 128, 129, 255, 256, 257, 1000, 1024, 4095, 4096, 4097}
}

func check(t *testing.T, what string, got, want []byte) {
	t.Helper()
	if !bytes.Equal(got, want) {
		t.Errorf("%s: %x, not %x", what, got, want)
	}
}

func seal(t *testing.T, key, nonce, side, b []byte) []byte {
	t.Helper()
	made, errno := box.Seal(key, nonce, side, b)
	if errno != api.OK || len(made) != len(b)+api.TagSize {
		t.Fatalf("Seal of %d bytes: %d bytes, error %d", len(b), len(made), errno)
	}
	return made
}

func open(t *testing.T, key, nonce, side, sealed []byte) []byte {
	t.Helper()
	b, errno := box.Open(key, nonce, side, sealed)
	if errno != api.OK || len(b) != len(sealed)-api.TagSize {
		t.Fatalf("Open of %d bytes: %d bytes, error %d", len(sealed), len(b), errno)
	}
	return b
}

// closed: that sealed bytes aren't opened, and that nothing of them is told.
func closed(t *testing.T, what string, key, nonce, side, sealed []byte, want api.Errno) {
	t.Helper()
	if b, errno := box.Open(key, nonce, side, sealed); b != nil || errno != want {
		t.Errorf("%s: Open of %d bytes: %d bytes, error %d, not %d", what, len(sealed), len(b), errno, want)
	}
}

// spoil overwrites bytes, and their spare room.
func spoil(b []byte) {
	b = b[:cap(b)]
	for i := range b {
		b[i] ^= 0xff
	}
}

// P7.1

const (
	sunscreen = "Ladies and Gentlemen of the class of '99: If I could offer you only one tip for the future, sunscreen would be it."
	drafts    = "Internet-Drafts are draft documents valid for a maximum of six months and may be updated, replaced, or obsoleted by other documents at any time. It is inappropriate to use Internet-Drafts as reference material or to cite them other than as /“work in progress./”"
)

// Those of RFC 8439's section 2.8.2 and of its appendix A.5.
func TestKnownBoxes(t *testing.T) {
	for _, c := range []struct{ key, nonce, side, text, sealed, tag string }{
		{"808182838485868788898a8b8c8d8e8f909192939495969798999a9b9c9d9e9f", "070000004041424344454647", "50515253c0c1c2c3c4c5c6c7", sunscreen,
			"d31a8d34648e60db7b86afbc53ef7ec2a4aded51296e08fea9e2b5a736ee62d63dbea45e8ca9671282fafb69da92728b1a71de0a9e060b2905d6a5b67ecd3b3692ddbd7f2d778b8c9803aee328091b58fab324e4fad675945585808b4831d7bc3ff4def08e4b7a9de576d26586cec64b6116",
			"1ae10b594f09e26a7e902ecbd0600691"},
		{"1c9240a5eb55d38af333888604f6b5f0473917c1402b80099dca5cbc207075c0", "000000000102030405060708", "f33388860000000000004e91", drafts,
			"64a0861575861af460f062c79be643bd5e805cfd345cf389f108670ac76c8cb24c6cfc18755d43eea09ee94e382d26b0bdb7b73c321b0100d4f03b7f355894cf332f830e710b97ce98c8a84abd0b948114ad176e008d33bd60f982b1ff37c8559797a06ef4f0ef61c186324e2b3506383606907b6a7c02b0f9f6157b53c867e4b9166c767b804d46a59b5216cde7a4e99040c5a40433225ee282a1b0a06c523eaf4534d7f83fa1155b0047718cbc546a0d072b04b3564eea1b422273f548271a0bb2316053fa76991955ebd63159434ecebb4e466dae5a1073a6727627097a1049e617d91d361094fa68f0ff77987130305beaba2eda04df997b714d6c6f2c29a6ad5cb4022b02709b",
			"eead9d67890cbb22392336fea1851f38"},
	} {
		key, nonce, side, want := unhex(t, c.key), unhex(t, c.nonce), unhex(t, c.side), unhex(t, c.sealed+c.tag)
		check(t, "Seal", seal(t, key, nonce, side, []byte(c.text)), want)
		check(t, "Open", open(t, key, nonce, side, want), []byte(c.text))
		check(t, "the test's own box", wantSealed(t, key, nonce, side, []byte(c.text)), want)
	}
}

func TestEachLength(t *testing.T) {
	key, nonce := someKey(), someNonce()
	for n := range 5*partBytes + 2 {
		for m := range 3*partBytes + 2 {
			checkBox(t, key, nonce, some(m), some(n))
		}
	}
	for _, n := range lengths() {
		for _, m := range lengths() {
			checkBox(t, key, nonce, full(m), make([]byte, n))
		}
	}
	checkBox(t, key, nonce, some(1<<16+3), some(1<<16+5))
	checkBox(t, key, nonce, nil, some(300_000))
	checkBox(t, key, nonce, some(300_000), nil)
}

func checkBox(t *testing.T, key, nonce, side, b []byte) {
	t.Helper()
	want := wantSealed(t, key, nonce, side, b)
	if got := seal(t, key, nonce, side, b); !bytes.Equal(got, want) {
		t.Errorf("Seal of %d bytes with %d beside: another box", len(b), len(side))
	}
	if got := open(t, key, nonce, side, want); !bytes.Equal(got, b) {
		t.Errorf("Open of %d bytes with %d beside: other bytes", len(want), len(side))
	}
}

// nil and empty are the same.
func TestNothing(t *testing.T) {
	key, nonce := someKey(), someNonce()
	want := wantSealed(t, key, nonce, nil, nil)
	for _, none := range [][]byte{nil, {}, some(9)[:0]} {
		for _, other := range [][]byte{nil, {}, some(9)[:0]} {
			check(t, "Seal of nothing", seal(t, key, nonce, none, other), want)
		}
		check(t, "Open of a tag alone", open(t, key, nonce, none, want), nil)
		sealed := seal(t, key, nonce, none, some(40))
		check(t, "Seal with nothing beside", sealed, wantSealed(t, key, nonce, nil, some(40)))
		check(t, "Open with nothing beside", open(t, key, nonce, none, sealed), some(40))
		check(t, "Seal of nothing with some beside", seal(t, key, nonce, some(40), none), wantSealed(t, key, nonce, some(40), nil))
	}
}

// Each bit counts, of the key, of the nonce, of what is told beside, and of the bytes.
func TestEachBit(t *testing.T) {
	args := [][]byte{someKey(), someNonce(), someSide(), some(70)}
	whole := seal(t, args[0], args[1], args[2], args[3])
	for which, b := range args {
		for i := range 8 * len(b) {
			b[i/8] ^= 1 << (i % 8)
			got := seal(t, args[0], args[1], args[2], args[3])
			check(t, "Seal", got, wantSealed(t, args[0], args[1], args[2], args[3]))
			if bytes.Equal(got[70:], whole[70:]) {
				t.Errorf("bit %d of argument %d changed: the same tag", i, which)
			}
			b[i/8] ^= 1 << (i % 8)
		}
	}
}

func TestErrors(t *testing.T) {
	for n := range 70 {
		if n != api.KeySize {
			checkRefused(t, some(n), someNonce())
			checkRefused(t, some(n), nil)
			checkRefused(t, some(n), some(api.KeySize))
		}
		if n != api.NonceSize {
			checkRefused(t, someKey(), some(n))
			checkRefused(t, nil, some(n))
		}
	}
	checkRefused(t, nil, nil)
	checkRefused(t, []byte{}, []byte{})
	checkRefused(t, nil, someNonce())
	checkRefused(t, someKey(), nil)
	checkRefused(t, someNonce(), someKey())
	checkRefused(t, some(4096), some(4096))
	// It is the length that counts, not the room.
	checkRefused(t, some(64)[:31], someNonce())
	checkRefused(t, someKey(), some(64)[:11])
}

// A wrong key, or nonce, is told ahead of too few bytes, and of another tag.
func checkRefused(t *testing.T, key, nonce []byte) {
	t.Helper()
	right := seal(t, someKey(), someNonce(), someSide(), some(50))
	for _, b := range [][]byte{nil, {}, some(1), some(15), some(16), some(17), some(200), right} {
		if made, errno := box.Seal(key, nonce, someSide(), b); made != nil || errno != api.ErrArg {
			t.Errorf("Seal, key of %d bytes, nonce of %d: %d bytes, error %d", len(key), len(nonce), len(made), errno)
		}
		closed(t, "a wrong key or nonce", key, nonce, someSide(), b, api.ErrArg)
		closed(t, "a wrong key or nonce", key, nonce, nil, b, api.ErrArg)
	}
}

func TestTooFew(t *testing.T) {
	whole := seal(t, someKey(), someNonce(), someSide(), nil)
	closed(t, "nil", someKey(), someNonce(), someSide(), nil, api.ErrForm)
	for n := range api.TagSize {
		for _, b := range [][]byte{make([]byte, n), full(n), some(n), whole[:n], whole[len(whole)-n:], some(100)[:n]} {
			closed(t, "too few", someKey(), someNonce(), someSide(), b, api.ErrForm)
			closed(t, "too few, and nothing beside", someKey(), someNonce(), nil, b, api.ErrForm)
		}
	}
	check(t, "enough", open(t, someKey(), someNonce(), someSide(), whole), nil)
	closed(t, "enough, of another one", someKey(), someNonce(), someSide(), some(api.TagSize), api.ErrSum)
	closed(t, "enough, all noughts", someKey(), someNonce(), someSide(), make([]byte, api.TagSize), api.ErrSum)
}

// P7.2

func TestOpenUndoesSeal(t *testing.T) {
	random := rand.New(rand.NewSource(7))
	anyLook := func(n int) []byte {
		b := make([]byte, n)
		random.Read(b)
		return b
	}
	for range 500 {
		key, nonce, side, b := anyLook(32), anyLook(12), anyLook(random.Intn(100)), anyLook(random.Intn(300))
		sealed := seal(t, key, nonce, side, b)
		check(t, "Seal", sealed, wantSealed(t, key, nonce, side, b))
		check(t, "Open", open(t, key, nonce, side, sealed), b)
	}
	for _, x := range []byte{0, 1, 0x7f, 0x80, 0xff} {
		key, nonce := bytes.Repeat([]byte{x}, 32), bytes.Repeat([]byte{^x}, 12)
		for _, n := range lengths() {
			checkBox(t, key, nonce, bytes.Repeat([]byte{x}, n/3), bytes.Repeat([]byte{^x}, n))
		}
	}
}

// Each other byte in each place of the tag.
func TestOtherTags(t *testing.T) {
	for _, n := range []int{0, 1, 16, 50} {
		sealed := seal(t, someKey(), someNonce(), someSide(), some(n))
		for at := n; at < len(sealed); at++ {
			right := sealed[at]
			for x := range 256 {
				if byte(x) != right {
					sealed[at] = byte(x)
					closed(t, "another tag", someKey(), someNonce(), someSide(), sealed, api.ErrSum)
				}
			}
			sealed[at] = right
		}
		check(t, "the right tag", open(t, someKey(), someNonce(), someSide(), sealed), some(n))
	}
}

// Tags of which several bytes are other ones, in such ways as cancel each other out.
func TestOtherTagsInSeveralPlaces(t *testing.T) {
	sealed := seal(t, someKey(), someNonce(), someSide(), some(30))
	for i := 30; i < len(sealed); i++ {
		for k := i + 1; k < len(sealed); k++ {
			for _, x := range []byte{1, 0x80, 0xff} {
				other := slices.Clone(sealed)
				other[i] ^= x
				other[k] ^= x
				closed(t, "a tag with two bytes flipped", someKey(), someNonce(), someSide(), other, api.ErrSum)
				other[i], other[k] = sealed[i]+x, sealed[k]-x
				closed(t, "a tag with one byte more, one less", someKey(), someNonce(), someSide(), other, api.ErrSum)
			}
			if other := slices.Clone(sealed); other[i] != other[k] {
				other[i], other[k] = other[k], other[i]
				closed(t, "a tag with two bytes swapped", someKey(), someNonce(), someSide(), other, api.ErrSum)
			}
		}
	}
}

// Whichever bit is another one, of what Open is given, it doesn't open.
func TestEachOtherBit(t *testing.T) {
	for _, n := range []int{0, 1, 16, 65} {
		args := [][]byte{someKey(), someNonce(), someSide(), seal(t, someKey(), someNonce(), someSide(), some(n))}
		for _, b := range args {
			for i := range 8 * len(b) {
				b[i/8] ^= 1 << (i % 8)
				closed(t, "another bit", args[0], args[1], args[2], args[3], api.ErrSum)
				b[i/8] ^= 1 << (i % 8)
			}
		}
		check(t, "each bit as it was", open(t, args[0], args[1], args[2], args[3]), some(n))
	}
}

func TestCutAndLengthened(t *testing.T) {
	key, nonce, side := someKey(), someNonce(), someSide()
	sealed := seal(t, key, nonce, side, some(40))
	for n := range sealed {
		want := api.ErrSum
		if n < api.TagSize {
			want = api.ErrForm
		}
		closed(t, "cut at its end", key, nonce, side, sealed[:n], want)
		closed(t, "cut at its beginning", key, nonce, side, sealed[len(sealed)-n:], want)
		closed(t, "cut in the middle", key, nonce, side, slices.Concat(sealed[:n/2], sealed[len(sealed)-(n-n/2):]), want)
	}
	for more := 1; more < 40; more++ {
		noughts := make([]byte, more)
		closed(t, "noughts behind", key, nonce, side, slices.Concat(sealed, noughts), api.ErrSum)
		closed(t, "noughts ahead", key, nonce, side, slices.Concat(noughts, sealed), api.ErrSum)
		closed(t, "noughts ahead of the tag", key, nonce, side, slices.Concat(sealed[:40], noughts, sealed[40:]), api.ErrSum)
		closed(t, "noughts behind side", key, nonce, slices.Concat(side, noughts), sealed, api.ErrSum)
		closed(t, "noughts ahead of side", key, nonce, slices.Concat(noughts, side), sealed, api.ErrSum)
	}
	for n := range side {
		closed(t, "side cut", key, nonce, side[:n], sealed, api.ErrSum)
	}
}

// What is told beside isn't sealed, nor are sealed bytes told beside, wherever the border is drawn.
func TestBorderBetweenSideAndBytes(t *testing.T) {
	key, nonce := someKey(), someNonce()
	for _, m := range []int{0, 16, 21, 32} {
		side := some(m)
		sealed := seal(t, key, nonce, side, some(32))
		both := slices.Concat(side, sealed)
		for at := range len(both) - api.TagSize + 1 {
			if at != m {
				closed(t, "another border", key, nonce, both[:at], both[at:], api.ErrSum)
			}
		}
		closed(t, "side and bytes swapped", key, nonce, sealed[:32], slices.Concat(side, sealed[32:]), api.ErrSum)
	}
}

func TestBytesHandedIn(t *testing.T) {
	for _, n := range lengths() {
		rooms := [][]byte{some(120), some(110), some(n + 97), some(n + 150), nil}
		key, nonce, side, b := rooms[0][:32], rooms[1][:12], rooms[2][:n], rooms[3][:n]
		want := wantSealed(t, key, nonce, side, b)
		rooms[4] = append(slices.Clone(want), some(60)...)
		var wholes [][]byte
		for _, room := range rooms {
			wholes = append(wholes, slices.Clone(room))
		}
		sealed, opened := seal(t, key, nonce, side, b), open(t, key, nonce, side, rooms[4][:len(want)])
		for i, room := range rooms {
			check(t, "bytes handed in", room, wholes[i])
			spoil(room)
		}
		check(t, "Seal, what was handed in spoilt", sealed, want)
		check(t, "Open, what was handed in spoilt", opened, wholes[3][:n])
	}
}

func TestRefusedBytesStay(t *testing.T) {
	key, nonce, side, b := someKey(), someNonce(), someSide(), some(100)
	box.Seal(key[:31], nonce, side, b)
	box.Open(key, nonce[:11], side, b)
	box.Open(key, nonce, side, b[:15])
	box.Open(key, nonce, side, b)
	for i, want := range [][]byte{someKey(), someNonce(), someSide(), some(100)} {
		check(t, "bytes handed in", [][]byte{key, nonce, side, b}[i], want)
	}
}

func TestAnswersAreNewMemory(t *testing.T) {
	for _, n := range lengths() {
		key, nonce, side, b := someKey(), someNonce(), someSide(), some(n)
		want := wantSealed(t, key, nonce, side, b)
		sealed := slices.Clone(want)
		first, second := seal(t, key, nonce, side, b), seal(t, key, nonce, side, b)
		opened, again := open(t, key, nonce, side, sealed), open(t, key, nonce, side, sealed)
		spoil(first)
		spoil(opened)
		for i, whole := range [][]byte{someKey(), someNonce(), someSide(), some(n), want} {
			check(t, "bytes handed in, answers spoilt", [][]byte{key, nonce, side, b, sealed}[i], whole)
		}
		check(t, "Seal, another answer spoilt", second, want)
		check(t, "Open, another answer spoilt", again, b)
		check(t, "Seal behind a spoilt answer", seal(t, key, nonce, side, b), want)
		check(t, "Open behind a spoilt answer", open(t, key, nonce, side, sealed), b)
	}
}

// What is behind an answer isn't in reach: no more of the stream is handed out than was asked for.
func TestNoMoreStreamThanAskedFor(t *testing.T) {
	for _, n := range lengths() {
		sealed := seal(t, someKey(), someNonce(), someSide(), some(n))
		for _, got := range [][]byte{sealed, open(t, someKey(), someNonce(), someSide(), sealed)} {
			if bytes.Trim(got[len(got):cap(got)], "\x00") != nil {
				t.Errorf("of %d bytes: something behind", n)
			}
		}
	}
}

// One memory handed in as all arguments.
func TestSharedArguments(t *testing.T) {
	room := some(64)
	key, nonce, side, b := room[:32], room[20:32], room[25:50], room[:60]
	want := wantSealed(t, some(64)[:32], some(64)[20:32], some(64)[25:50], some(64)[:60])
	sealed := seal(t, key, nonce, side, b)
	check(t, "Seal", sealed, want)
	check(t, "what was handed in", room, some(64))
	check(t, "Open", open(t, key, nonce, side, sealed), b)
	inner := seal(t, sealed[:32], sealed[32:44], sealed[44:], sealed)
	check(t, "Seal of what was sealed", inner, wantSealed(t, want[:32], want[32:44], want[44:], want))
	check(t, "Open with what was sealed", open(t, sealed[:32], sealed[32:44], sealed[44:], inner), want)
}

// What was asked ahead, or is asked meanwhile, tells nothing on what is asked now.
func TestCallsAreApart(t *testing.T) {
	want := seal(t, someKey(), someNonce(), someSide(), some(40))
	other := seal(t, full(32), someNonce(), someSide(), some(40))
	box.Open(someKey(), someNonce(), nil, other)
	box.Seal(nil, nil, nil, nil)
	check(t, "Seal asked again", seal(t, someKey(), someNonce(), someSide(), some(40)), want)
	check(t, "Open behind another one", open(t, someKey(), someNonce(), someSide(), want), some(40))
	if n := onesApart(want, other); n < 150 || n > 298 {
		t.Errorf("boxes of two keys: %d bits of 448 unlike", n)
	}
	var all sync.WaitGroup
	for range 8 {
		all.Go(func() {
			for range 50 {
				made, errno := box.Seal(someKey(), someNonce(), someSide(), some(40))
				if errno != api.OK || !bytes.Equal(made, want) {
					t.Errorf("Seal asked meanwhile: %x, error %d, not %x", made, errno, want)
				}
				if b, errno := box.Open(someKey(), someNonce(), someSide(), made); errno != api.OK || !bytes.Equal(b, some(40)) {
					t.Errorf("Open asked meanwhile: %x, error %d", b, errno)
				}
			}
		})
	}
	all.Wait()
}

func onesApart(a, b []byte) int {
	n := 0
	for i := range a {
		n += bits.OnesCount8(a[i] ^ b[i])
	}
	return n
}
