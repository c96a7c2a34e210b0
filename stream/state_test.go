package stream

import "testing"

// RFC 8439's section 2.1.1.
func TestKnownQuarter(t *testing.T) {
	a, b, c, d := quarter(0x11111111, 0x01020304, 0x9b8d6f43, 0x01234567)
	if a != 0xea2a92f4 || b != 0xcb1cf8ce || c != 0x4581472e || d != 0x5881c4bb {
		t.Errorf("%08x %08x %08x %08x", a, b, c, d)
	}
}

// RFC 8439's section 2.3.2: the state as it is laid, and behind ten double rounds.
func TestKnownState(t *testing.T) {
	key := make([]byte, 32)
	for i := range key {
		key[i] = byte(i)
	}
	s, _ := stateOf(key, 1, []byte{0, 0, 0, 9, 0, 0, 0, 0x4a, 0, 0, 0, 0})
	laid := state{
		0x61707865, 0x3320646e, 0x79622d32, 0x6b206574, 0x03020100, 0x07060504, 0x0b0a0908, 0x0f0e0d0c,
		0x13121110, 0x17161514, 0x1b1a1918, 0x1f1e1d1c, 0x00000001, 0x09000000, 0x4a000000, 0x00000000,
	}
	if s != laid {
		t.Errorf("laid: %08x", s)
	}
	for range doubleRounds {
		s.doubleRound()
	}
	mixed := state{
		0x837778ab, 0xe238d763, 0xa67ae21e, 0x5950bb2f, 0xc4f2d0c7, 0xfc62bb2f, 0x8fa018fc, 0x3f5ec7b7,
		0x335271c2, 0xf29489f3, 0xeabda8fc, 0x82e46ebd, 0xd19c12b4, 0xb04e16de, 0x9e83d0cb, 0x4e3c50a2,
	}
	if s != mixed {
		t.Errorf("behind ten double rounds: %08x", s)
	}
}

// A block is made of a state, which stays as it is.
func TestBlockLeavesTheState(t *testing.T) {
	s, _ := stateOf(make([]byte, 32), 7, make([]byte, 12))
	before := s
	first := s.block()
	if s != before || s.block() != first {
		t.Error("the state has changed")
	}
}
