package stream_test

import (
	"bytes"
	"encoding/binary"
	"encoding/hex"
	"math"
	"math/bits"
	"math/rand"
	"slices"
	"strings"
	"testing"

	"sacristy/api"
	"sacristy/stream"
)

// Go's library has no such stream to import: ours is held against RFC 8439's examples, and against one that is written another way below.

const blockBytes = 64

// row: four words, the state's rows of a square.
type row [4]uint32

func (r row) add(o row) row {
	for i := range r {
		r[i] = uint32((uint64(r[i]) + uint64(o[i])) % (1 << 32))
	}
	return r
}

// xorTurned: each word exclusive or with the other row's, and turned to the left.
func (r row) xorTurned(o row, n int) row {
	for i := range r {
		x := uint64(r[i] ^ o[i])
		r[i] = uint32(x<<n | x>>(32-n))
	}
	return r
}

// moved: the words n places to the left.
func (r row) moved(n int) row { return row{r[n%4], r[(n+1)%4], r[(n+2)%4], r[(n+3)%4]} }

func quarters(a, b, c, d row) (row, row, row, row) {
	a = a.add(b)
	d = d.xorTurned(a, 16)
	c = c.add(d)
	b = b.xorTurned(c, 12)
	a = a.add(b)
	d = d.xorTurned(a, 8)
	c = c.add(d)
	b = b.xorTurned(c, 7)
	return a, b, c, d
}

// wantBlock goes by rows: all four quarters of a half round at once, and the rows moved in between.
func wantBlock(key []byte, counter uint32, nonce []byte) []byte {
	var first [4]row
	whole := slices.Concat([]byte("expand 32-byte k"), key, binary.LittleEndian.AppendUint32(nil, counter), nonce)
	for i := range 16 {
		first[i/4][i%4] = binary.LittleEndian.Uint32(whole[4*i:])
	}
	a, b, c, d := first[0], first[1], first[2], first[3]
	for half := 0; half < 20; half++ {
		a, b, c, d = quarters(a, b, c, d)
		if half%2 == 0 {
			b, c, d = b.moved(1), c.moved(2), d.moved(3)
		} else {
			b, c, d = b.moved(3), c.moved(2), d.moved(1)
		}
	}
	var made []byte
	for i, r := range [4]row{a, b, c, d} {
		for _, word := range r.add(first[i]) {
			made = binary.LittleEndian.AppendUint32(made, word)
		}
	}
	return made
}

func wantXor(key []byte, counter uint32, nonce, b []byte) []byte {
	made := make([]byte, len(b))
	for at := 0; at < len(b); at += blockBytes {
		for i, x := range wantBlock(key, counter+uint32(at/blockBytes), nonce) {
			if at+i < len(b) {
				made[at+i] = x ^ b[at+i]
			}
		}
	}
	return made
}

// some: bytes of any look, the same ones each time.
func some(n int) []byte {
	b := make([]byte, n)
	rand.New(rand.NewSource(int64(n))).Read(b)
	return b
}

func someKey() []byte   { return some(api.KeySize) }
func someNonce() []byte { return some(api.NonceSize) }

func unhex(t *testing.T, digits string) []byte {
	t.Helper()
	b, err := hex.DecodeString(strings.ReplaceAll(digits, " ", ""))
	if err != nil {
		t.Fatal(err)
	}
	return b
}

// lengths about the ends of blocks.
func lengths() []int {
	return []int{0, 1, 2, 3, 4, 16, 63, 64, 65, 100, 127, 128, 129, 191, 192, 193, 1000, 4095, 4096, 4097}
}

// counters at the ends of the word, and of each of its bytes.
func counters() []uint32 {
	return []uint32{0, 1, 2, 42, 255, 256, 1<<16 - 1, 1 << 16, 1<<24 - 1, 1 << 24, math.MaxInt32, 1 << 31, math.MaxUint32 - 1, math.MaxUint32}
}

func check(t *testing.T, what string, got, want []byte) {
	t.Helper()
	if !bytes.Equal(got, want) {
		t.Errorf("%s: %x, not %x", what, got, want)
	}
}

func block(t *testing.T, key []byte, counter uint32, nonce []byte) []byte {
	t.Helper()
	b, errno := stream.Block(key, counter, nonce)
	if errno != api.OK || len(b) != blockBytes {
		t.Fatalf("Block %d: %d bytes, error %d", counter, len(b), errno)
	}
	return b
}

func xor(t *testing.T, key []byte, counter uint32, nonce, b []byte) []byte {
	t.Helper()
	made, errno := stream.Xor(key, counter, nonce, b)
	if errno != api.OK || len(made) != len(b) {
		t.Fatalf("Xor of %d bytes: %d bytes, error %d", len(b), len(made), errno)
	}
	return made
}

// spoil overwrites bytes, and their spare room.
func spoil(b []byte) {
	b = b[:cap(b)]
	for i := range b {
		b[i] ^= 0xff
	}
}

// P5.1

// Those of RFC 8439's section 2.3.2 and of its appendix A.1.
func TestKnownBlocks(t *testing.T) {
	noughts := strings.Repeat("00", 32)
	for _, c := range []struct {
		key     string
		counter uint32
		nonce   string
		block   string
	}{
		{"000102030405060708090a0b0c0d0e0f101112131415161718191a1b1c1d1e1f", 1, "000000090000004a00000000",
			"10f1e7e4d13b5915500fdd1fa32071c4c7d1f4c733c068030422aa9ac3d46c4ed2826446079faa0914c2d705d98b02a2b5129cd1de164eb9cbd083e8a2503c4e"},
		{noughts, 0, noughts[:24],
			"76b8e0ada0f13d90405d6ae55386bd28bdd219b8a08ded1aa836efcc8b770dc7da41597c5157488d7724e03fb8d84a376a43b8f41518a11cc387b669b2ee6586"},
		{noughts, 1, noughts[:24],
			"9f07e7be5551387a98ba977c732d080dcb0f29a048e3656912c6533e32ee7aed29b721769ce64e43d57133b074d839d531ed1f28510afb45ace10a1f4b794d6f"},
		{noughts[:62] + "01", 1, noughts[:24],
			"3aeb5224ecf849929b9d828db1ced4dd832025e8018b8160b82284f3c949aa5a8eca00bbb4a73bdad192b5c42f73f2fd4e273644c8b36125a64addeb006c13a0"},
		{"00ff" + noughts[:60], 2, noughts[:24],
			"72d54dfbf12ec44b362692df94137f328fea8da73990265ec1bbbea1ae9af0ca13b25aa26cb4a648cb9b9d1be65b2c0924a66c54d545ec1b7374f4872e99f096"},
		{noughts, 0, noughts[:22] + "02",
			"c2c64d378cd536374ae204b9ef933fcd1a8b2288b3dfa49672ab765b54ee27c78a970e0e955c14f3a88e741b97c286f75f8fc299e8148362fa198a39531bed6d"},
	} {
		key, nonce, want := unhex(t, c.key), unhex(t, c.nonce), unhex(t, c.block)
		check(t, "block", block(t, key, c.counter, nonce), want)
		check(t, "noughts with the stream", xor(t, key, c.counter, nonce, make([]byte, blockBytes)), want)
		check(t, "the test's own block", wantBlock(key, c.counter, nonce), want)
	}
}

// Those of RFC 8439's section 2.4.2 and of its appendix A.2.
func TestKnownTexts(t *testing.T) {
	noughts := strings.Repeat("00", 32)
	for _, c := range []struct {
		key     string
		counter uint32
		nonce   string
		text    string
		made    string
	}{
		{"000102030405060708090a0b0c0d0e0f101112131415161718191a1b1c1d1e1f", 1, "000000000000004a00000000",
			"Ladies and Gentlemen of the class of '99: If I could offer you only one tip for the future, sunscreen would be it.",
			"6e2e359a2568f98041ba0728dd0d6981e97e7aec1d4360c20a27afccfd9fae0bf91b65c5524733ab8f593dabcd62b3571639d624e65152ab8f530c359f0861d807ca0dbf500d6a6156a38e088a22b65e52bc514d16ccf806818ce91ab77937365af90bbf74a35be6b40b8eedf2785e42874d"},
		{"1c9240a5eb55d38af333888604f6b5f0473917c1402b80099dca5cbc207075c0", 42, "000000000000000000000002",
			"'Twas brillig, and the slithy toves\nDid gyre and gimble in the wabe:\nAll mimsy were the borogoves,\nAnd the mome raths outgrabe.",
			"62e6347f95ed87a45ffae7426f27a1df5fb69110044c0d73118effa95b01e5cf166d3df2d721caf9b21e5fb14c616871fd84c54f9d65b283196c7fe4f60553ebf39c6402c42234e32a356b3e764312a61a5532055716ead6962568f87d3f3f7704c6a8d1bcd1bf4d50d6154b6da731b187b58dfd728afa36757a797ac188d1"},
		{noughts[:62] + "01", 1, "000000000000000000000002",
			`Any submission to the IETF intended by the Contributor for publication as all or part of an IETF Internet-Draft or RFC and any statement made within the context of an IETF activity is considered an "IETF Contribution". Such statements include oral statements in IETF sessions, as well as written and electronic communications made at any time or place, which are addressed to`,
			"a3fbf07df3fa2fde4f376ca23e82737041605d9f4f4f57bd8cff2c1d4b7955ec2a97948bd3722915c8f3d337f7d370050e9e96d647b7c39f56e031ca5eb6250d4042e02785ececfa4b4bb5e8ead0440e20b6e8db09d881a7c6132f420e52795042bdfa7773d8a9051447b3291ce1411c680465552aa6c405b7764d5e87bea85ad00f8449ed8f72d0d662ab052691ca66424bc86d2df80ea41f43abf937d3259dc4b2d0dfb48a6c9139ddd7f76966e928e635553ba76c5c879d7b35d49eb2e62b0871cdac638939e25e8a1e0ef9d5280fa8ca328b351c3c765989cbcf3daa8b6ccc3aaf9f3979c92b3720fc88dc95ed84a1be059c6499b9fda236e7e818b04b0bc39c1e876b193bfe5569753f88128cc08aaa9b63d1a16f80ef2554d7189c411f5869ca52c5b83fa36ff216b9c1d30062bebcfd2dc5bce0911934fda79a86f6e698ced759c3ff9b6477338f3da4f9cd8514ea9982ccafb341b2384dd902f3d1ab7ac61dd29c6f21ba5b862f3730e37cfdc4fd806c22f221"},
	} {
		key, nonce, want := unhex(t, c.key), unhex(t, c.nonce), unhex(t, c.made)
		check(t, "Xor", xor(t, key, c.counter, nonce, []byte(c.text)), want)
		check(t, "Xor back", xor(t, key, c.counter, nonce, want), []byte(c.text))
	}
}

// Each bit counts, of the key, of the counter and of the nonce.
func TestEachBit(t *testing.T) {
	key, nonce := someKey(), someNonce()
	for _, b := range [][]byte{key, nonce} {
		for i := range 8 * len(b) {
			b[i/8] ^= 1 << (i % 8)
			check(t, "block", block(t, key, 7, nonce), wantBlock(key, 7, nonce))
			check(t, "Xor", xor(t, key, 7, nonce, some(130)), wantXor(key, 7, nonce, some(130)))
			b[i/8] ^= 1 << (i % 8)
		}
	}
	for i := range 32 {
		counter := uint32(1) << i
		check(t, "block", block(t, key, counter, nonce), wantBlock(key, counter, nonce))
		check(t, "block", block(t, key, ^counter, nonce), wantBlock(key, ^counter, nonce))
	}
}

func TestBlocksOfAnyLook(t *testing.T) {
	for _, x := range []byte{0, 1, 0x7f, 0x80, 0xff} {
		key, nonce := bytes.Repeat([]byte{x}, 32), bytes.Repeat([]byte{^x}, 12)
		for _, counter := range counters() {
			check(t, "block", block(t, key, counter, nonce), wantBlock(key, counter, nonce))
		}
	}
	random := rand.New(rand.NewSource(5))
	for range 500 {
		key, nonce, counter := make([]byte, 32), make([]byte, 12), random.Uint32()
		random.Read(key)
		random.Read(nonce)
		check(t, "block", block(t, key, counter, nonce), wantBlock(key, counter, nonce))
	}
}

func TestEachLength(t *testing.T) {
	key, nonce := someKey(), someNonce()
	for n := range 5*blockBytes + 1 {
		for _, b := range [][]byte{make([]byte, n), bytes.Repeat([]byte{0xff}, n), some(n)} {
			check(t, "Xor", xor(t, key, 3, nonce, b), wantXor(key, 3, nonce, b))
		}
	}
	// So many blocks that their number needs more than two bytes of the counter.
	long := some(blockBytes*(1<<16+3) + 5)
	if !bytes.Equal(xor(t, key, 0, nonce, long), wantXor(key, 0, nonce, long)) {
		t.Error("Xor of some 4 million bytes: another stream")
	}
}

func TestXorOfNothing(t *testing.T) {
	for _, counter := range counters() {
		for _, b := range [][]byte{nil, {}} {
			check(t, "Xor of nothing", xor(t, someKey(), counter, someNonce(), b), nil)
		}
	}
}

// The stream is the blocks, one behind the other; behind the last counter comes 0, and the nonce doesn't change.
func TestStreamIsItsBlocks(t *testing.T) {
	key := someKey()
	for _, nonce := range [][]byte{someNonce(), make([]byte, 12), bytes.Repeat([]byte{0xff}, 12)} {
		for _, counter := range counters() {
			var want []byte
			for i := range uint32(4) {
				want = append(want, block(t, key, counter+i, nonce)...)
			}
			check(t, "stream", xor(t, key, counter, nonce, make([]byte, 4*blockBytes)), want)
			check(t, "stream", xor(t, key, counter, nonce, make([]byte, 4*blockBytes-1)), want[:4*blockBytes-1])
		}
	}
	got := xor(t, key, math.MaxUint32, someNonce(), make([]byte, 2*blockBytes))
	check(t, "behind the last counter", got[blockBytes:], block(t, key, 0, someNonce()))
}

func TestErrors(t *testing.T) {
	for n := range 70 {
		if n != api.KeySize {
			checkRefused(t, some(n), someNonce())
			checkRefused(t, some(n), nil)
			checkRefused(t, some(n), some(api.KeySize))
		}
		if n != api.NonceSize {
			checkRefused(t, someKey(), some(n))
			checkRefused(t, nil, some(n))
		}
	}
	checkRefused(t, nil, nil)
	checkRefused(t, []byte{}, []byte{})
	checkRefused(t, nil, someNonce())
	checkRefused(t, someKey(), nil)
	checkRefused(t, someNonce(), someKey())
	// It is the length that counts, not the room.
	checkRefused(t, some(64)[:31], someNonce())
	checkRefused(t, someKey(), some(64)[:11])
	checkRefused(t, some(4096), some(4096))
}

func checkRefused(t *testing.T, key, nonce []byte) {
	t.Helper()
	for _, counter := range []uint32{0, 1, math.MaxUint32} {
		if b, errno := stream.Block(key, counter, nonce); b != nil || errno != api.ErrArg {
			t.Errorf("Block, key of %d bytes, nonce of %d: %d bytes, error %d", len(key), len(nonce), len(b), errno)
		}
		for _, text := range [][]byte{nil, {}, some(1), some(200)} {
			if b, errno := stream.Xor(key, counter, nonce, text); b != nil || errno != api.ErrArg {
				t.Errorf("Xor, key of %d bytes, nonce of %d: %d bytes, error %d", len(key), len(nonce), len(b), errno)
			}
		}
	}
}

// P5.2

func TestTwiceIsNothingDone(t *testing.T) {
	for _, n := range lengths() {
		for _, counter := range counters() {
			b := some(n)
			once := xor(t, someKey(), counter, someNonce(), b)
			check(t, "Xor twice", xor(t, someKey(), counter, someNonce(), once), b)
			if n >= 16 && bytes.Equal(once, b) {
				t.Errorf("Xor of %d bytes once: nothing done", n)
			}
		}
	}
}

// Whatever stands elsewhere, and however much, a byte becomes the same.
func TestEachByteHangsOnItsPlace(t *testing.T) {
	key, nonce, b := someKey(), someNonce(), some(3*blockBytes+9)
	whole := xor(t, key, 9, nonce, b)
	for n := range b {
		check(t, "a beginning", xor(t, key, 9, nonce, b[:n]), whole[:n])
		other := bytes.Repeat([]byte{0x5a}, len(b))
		other[n] = b[n]
		if got := xor(t, key, 9, nonce, other); got[n] != whole[n] {
			t.Errorf("byte %d: %02x among others, %02x", n, got[n], whole[n])
		}
	}
	for i := range 4 {
		at := i * blockBytes
		check(t, "from a later block on", xor(t, key, 9+uint32(i), nonce, b[at:]), whole[at:])
	}
	for i := range 8 * len(b) {
		changed := slices.Clone(b)
		changed[i/8] ^= 1 << (i % 8)
		want := slices.Clone(whole)
		want[i/8] ^= 1 << (i % 8)
		check(t, "one bit another one", xor(t, key, 9, nonce, changed), want)
	}
}

func TestBytesHandedIn(t *testing.T) {
	for _, n := range lengths() {
		keyRoom, nonceRoom, room := some(120), some(110), some(n+150)
		key, nonce, b := keyRoom[:32], nonceRoom[:12], room[:n]
		wantB, wantX := wantBlock(key, 5, nonce), wantXor(key, 5, nonce, b)
		gotB, gotX := block(t, key, 5, nonce), xor(t, key, 5, nonce, b)
		check(t, "key handed in", keyRoom, some(120))
		check(t, "nonce handed in", nonceRoom, some(110))
		check(t, "bytes handed in", room, some(n+150))
		for _, handed := range [][]byte{keyRoom, nonceRoom, room} {
			spoil(handed)
		}
		check(t, "block, what was handed in spoilt", gotB, wantB)
		check(t, "Xor, what was handed in spoilt", gotX, wantX)
	}
}

func TestRefusedBytesStay(t *testing.T) {
	key, nonce, b := some(31), someNonce(), some(100)
	stream.Block(key, 0, nonce)
	stream.Xor(key, 0, nonce, b)
	check(t, "key handed in", key, some(31))
	check(t, "nonce handed in", nonce, someNonce())
	check(t, "bytes handed in", b, some(100))
}

func TestAnswersAreNewMemory(t *testing.T) {
	key, nonce := someKey(), someNonce()
	for _, n := range lengths() {
		wantB, wantX := wantBlock(key, 5, nonce), wantXor(key, 5, nonce, some(n))
		b := some(n)
		firstB, firstX := block(t, key, 5, nonce), xor(t, key, 5, nonce, b)
		secondB, secondX := block(t, key, 5, nonce), xor(t, key, 5, nonce, b)
		spoil(firstB)
		spoil(firstX)
		check(t, "bytes handed in, an answer spoilt", b, some(n))
		check(t, "block, another one spoilt", secondB, wantB)
		check(t, "Xor, another one spoilt", secondX, wantX)
		check(t, "block behind spoilt ones", block(t, key, 5, nonce), wantB)
		check(t, "Xor behind spoilt ones", xor(t, key, 5, nonce, b), wantX)
	}
}

// What is behind the answer isn't in reach: no more of the stream is handed out than was asked for.
func TestNoMoreStreamThanAskedFor(t *testing.T) {
	key, nonce := someKey(), someNonce()
	for _, n := range lengths() {
		got := xor(t, key, 5, nonce, make([]byte, n))
		for _, x := range got[n:cap(got)] {
			if x != 0 {
				t.Errorf("Xor of %d bytes: more of the stream behind", n)
			}
		}
	}
}

// One memory handed in as all arguments.
func TestSharedArguments(t *testing.T) {
	b := some(32)
	check(t, "Xor of the key", xor(t, b, 2, b[:12], b), wantXor(b, 2, b[:12], b))
	check(t, "Xor of the nonce", xor(t, b, 2, b[20:], b[20:]), wantXor(b, 2, b[20:], b[20:]))
	check(t, "block", block(t, b, 2, b[5:17]), wantBlock(b, 2, b[5:17]))
	check(t, "what was handed in", b, some(32))
	made := block(t, b, 0, b[:12])
	check(t, "with a block as the key", xor(t, made[:32], 1, made[32:44], made), wantXor(made[:32], 1, made[32:44], made))
}

// What was asked ahead tells nothing on what is asked now.
func TestCallsAreApart(t *testing.T) {
	first, second := someKey(), bytes.Repeat([]byte{3}, 32)
	want := block(t, first, 1, someNonce())
	xor(t, first, 1, someNonce(), some(300))
	block(t, second, 2, someNonce())
	stream.Block(nil, 3, nil)
	check(t, "block asked again", block(t, first, 1, someNonce()), want)
	if n := onesApart(want, block(t, first, 2, someNonce())); n < 150 || n > 362 {
		t.Errorf("blocks of two counters: %d bits of 512 unlike", n)
	}
}

func onesApart(a, b []byte) int {
	n := 0
	for i := range a {
		n += bits.OnesCount8(a[i] ^ b[i])
	}
	return n
}
