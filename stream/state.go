package stream

import (
	"math/bits"

	"sacristy/api"
)

const (
	wordBytes    = 4
	stateWords   = 16
	blockBytes   = stateWords * wordBytes
	doubleRounds = 10

	// Where in the state what is handed in begins.
	keyWord     = 4
	counterWord = 12
	nonceWord   = 13
)

// state: its own four words, the key's eight, the counter, the nonce's three.
type state [stateWords]uint32

// stateOf: the state of a key, a counter and a nonce.
func stateOf(key []byte, counter uint32, nonce []byte) (state, api.Errno) {
	if len(key) != api.KeySize || len(nonce) != api.NonceSize {
		return state{}, api.ErrArg
	}
	s := state{0x61707865, 0x3320646e, 0x79622d32, 0x6b206574, counterWord: counter}
	s.put(keyWord, key)
	s.put(nonceWord, nonce)
	return s, api.OK
}

// put lays the words that the bytes make, from a place on, over what is there, which must be 0.
func (s *state) put(at int, b []byte) {
	for i, x := range b {
		s[at+i/wordBytes] |= uint32(x) << (8 * (i % wordBytes))
	}
}

// block: the state's block, as bytes.
func (s state) block() [blockBytes]byte {
	mixed := s
	for range doubleRounds {
		mixed.doubleRound()
	}
	var b [blockBytes]byte
	for i := range b {
		word := mixed[i/wordBytes] + s[i/wordBytes]
		b[i] = byte(word >> (8 * (i % wordBytes)))
	}
	return b
}

// doubleRound: the state as a square of four rows: quarters of its columns, then of its slanted lines.
func (s *state) doubleRound() {
	s[0], s[4], s[8], s[12] = quarter(s[0], s[4], s[8], s[12])
	s[1], s[5], s[9], s[13] = quarter(s[1], s[5], s[9], s[13])
	s[2], s[6], s[10], s[14] = quarter(s[2], s[6], s[10], s[14])
	s[3], s[7], s[11], s[15] = quarter(s[3], s[7], s[11], s[15])

	s[0], s[5], s[10], s[15] = quarter(s[0], s[5], s[10], s[15])
	s[1], s[6], s[11], s[12] = quarter(s[1], s[6], s[11], s[12])
	s[2], s[7], s[8], s[13] = quarter(s[2], s[7], s[8], s[13])
	s[3], s[4], s[9], s[14] = quarter(s[3], s[4], s[9], s[14])
}

// quarter: what four words become.
func quarter(a, b, c, d uint32) (uint32, uint32, uint32, uint32) {
	a += b
	d = bits.RotateLeft32(d^a, 16)
	c += d
	b = bits.RotateLeft32(b^c, 12)
	a += b
	d = bits.RotateLeft32(d^a, 8)
	c += d
	b = bits.RotateLeft32(b^c, 7)
	return a, b, c, d
}
