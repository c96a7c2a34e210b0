package sha

import (
	"math/big"
	"testing"
)

func primes(n int) []int64 {
	var l []int64
	for p := int64(2); len(l) < n; p++ {
		if big.NewInt(p).ProbablyPrime(10) {
			l = append(l, p)
		}
	}
	return l
}

// behindThePoint: the first 32 bits behind the point of p's root of that degree, found bit by bit.
func behindThePoint(p, degree int64) uint32 {
	whole := new(big.Int).Lsh(big.NewInt(p), uint(32*degree))
	root := new(big.Int)
	for bit := 40; bit >= 0; bit-- {
		root.SetBit(root, bit, 1)
		if new(big.Int).Exp(root, big.NewInt(degree), nil).Cmp(whole) > 0 {
			root.SetBit(root, bit, 0)
		}
	}
	return uint32(root.Uint64())
}

// The tables are what the chapter's words say of them.
func TestTables(t *testing.T) {
	for i, p := range primes(rounds) {
		if want := behindThePoint(p, 3); constants[i] != want {
			t.Errorf("constant %d: %08x, not %08x", i, constants[i], want)
		}
	}
	for i, p := range primes(stateWords) {
		if want := behindThePoint(p, 2); firstState[i] != want {
			t.Errorf("word %d of the first state: %08x, not %08x", i, firstState[i], want)
		}
	}
}

// The number of bits in eight bytes: also those of them that no test adds bytes enough for.
func TestBehind(t *testing.T) {
	for _, length := range []uint64{0, 1, 55, 56, 63, 64, 119, 120, 1<<29 - 1, 1 << 29, 0x0102030405060708 >> 3, 1 << 60} {
		b := behind(length)
		if (length+uint64(len(b)))%blockBytes != 0 || len(b) < 1+lengthBytes || len(b) > blockBytes+lengthBytes {
			t.Errorf("behind %d bytes: %d bytes", length, len(b))
		}
		number := uint64(0)
		for i, x := range b {
			switch {
			case i == 0 && x != 0x80 || i > 0 && i < len(b)-lengthBytes && x != 0:
				t.Errorf("behind %d bytes: byte %d is %02x", length, i, x)
			case i >= len(b)-lengthBytes:
				number = number<<8 | uint64(x)
			}
		}
		if number != length*8 {
			t.Errorf("behind %d bytes: %d bits", length, number)
		}
	}
}
