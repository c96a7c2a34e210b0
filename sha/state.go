package sha

import "math/bits"

const (
	blockBytes = 64
	wordBytes  = 4
	blockWords = blockBytes / wordBytes
	rounds     = 64
	stateWords = 8
)

// constants: of the first 64 primes, the first 32 bits behind the point of their cube roots.
var constants = [rounds]uint32{
	0x428a2f98, 0x71374491, 0xb5c0fbcf, 0xe9b5dba5, 0x3956c25b, 0x59f111f1, 0x923f82a4, 0xab1c5ed5,
	0xd807aa98, 0x12835b01, 0x243185be, 0x550c7dc3, 0x72be5d74, 0x80deb1fe, 0x9bdc06a7, 0xc19bf174,
	0xe49b69c1, 0xefbe4786, 0x0fc19dc6, 0x240ca1cc, 0x2de92c6f, 0x4a7484aa, 0x5cb0a9dc, 0x76f988da,
	0x983e5152, 0xa831c66d, 0xb00327c8, 0xbf597fc7, 0xc6e00bf3, 0xd5a79147, 0x06ca6351, 0x14292967,
	0x27b70a85, 0x2e1b2138, 0x4d2c6dfc, 0x53380d13, 0x650a7354, 0x766a0abb, 0x81c2c92e, 0x92722c85,
	0xa2bfe8a1, 0xa81a664b, 0xc24b8b70, 0xc76c51a3, 0xd192e819, 0xd6990624, 0xf40e3585, 0x106aa070,
	0x19a4c116, 0x1e376c08, 0x2748774c, 0x34b0bcb5, 0x391c0cb3, 0x4ed8aa4a, 0x5b9cca4f, 0x682e6ff3,
	0x748f82ee, 0x78a5636f, 0x84c87814, 0x8cc70208, 0x90befffa, 0xa4506ceb, 0xbef9a3f7, 0xc67178f2,
}

// state: the words a to h.
type state [stateWords]uint32

// firstState: of the first 8 primes, the first 32 bits behind the point of their square roots.
var firstState = state{
	0x6a09e667, 0xbb67ae85, 0x3c6ef372, 0xa54ff53a, 0x510e527f, 0x9b05688c, 0x1f83d9ab, 0x5be0cd19,
}

// take: a block more.
func (s *state) take(block *[blockBytes]byte) {
	w := words(block)
	a, b, c, d, e, f, g, h := s[0], s[1], s[2], s[3], s[4], s[5], s[6], s[7]
	for t := range rounds {
		t1 := h + (rotr(e, 6) ^ rotr(e, 11) ^ rotr(e, 25)) + (e&f ^ ^e&g) + constants[t] + w[t]
		t2 := (rotr(a, 2) ^ rotr(a, 13) ^ rotr(a, 22)) + (a&b ^ a&c ^ b&c)
		h, g, f, e, d, c, b, a = g, f, e, d+t1, c, b, a, t1+t2
	}
	made := state{a, b, c, d, e, f, g, h}
	for i, word := range made {
		s[i] += word
	}
}

// bytes: the state's words as bytes.
func (s *state) bytes() []byte {
	b := make([]byte, stateWords*wordBytes)
	for i := range b {
		b[i] = byte(s[i/wordBytes] >> (8 * (wordBytes - 1 - i%wordBytes)))
	}
	return b
}

// words: a block's words, and those that are made of them, one a round.
func words(block *[blockBytes]byte) [rounds]uint32 {
	var w [rounds]uint32
	for t := range blockWords {
		b := block[t*wordBytes:]
		w[t] = uint32(b[0])<<24 | uint32(b[1])<<16 | uint32(b[2])<<8 | uint32(b[3])
	}
	for t := blockWords; t < rounds; t++ {
		s0 := rotr(w[t-15], 7) ^ rotr(w[t-15], 18) ^ w[t-15]>>3
		s1 := rotr(w[t-2], 17) ^ rotr(w[t-2], 19) ^ w[t-2]>>10
		w[t] = s1 + w[t-7] + s0 + w[t-16]
	}
	return w
}

// rotr turns a word's bits n places to the right.
func rotr(word uint32, n int) uint32 { return bits.RotateLeft32(word, -n) }
