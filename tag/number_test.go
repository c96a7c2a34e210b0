package tag

import (
	"bytes"
	"math/big"
	"testing"

	"sacristy/nat"
)

func TestRing(t *testing.T) {
	want := new(big.Int).Sub(new(big.Int).Lsh(big.NewInt(1), 130), big.NewInt(5))
	if got := ring().Modulus().Least(); !bytes.Equal(got, want.Bytes()) {
		t.Errorf("modulus: %x, not %x", got, want)
	}
}

func TestNumbers(t *testing.T) {
	b := make([]byte, 40)
	for i := range b {
		b[i] = byte(i + 1)
	}
	want := [][]byte{
		{1, 16, 15, 14, 13, 12, 11, 10, 9, 8, 7, 6, 5, 4, 3, 2, 1},
		{1, 32, 31, 30, 29, 28, 27, 26, 25, 24, 23, 22, 21, 20, 19, 18, 17},
		{1, 40, 39, 38, 37, 36, 35, 34, 33},
	}
	told := 0
	for n := range numbers(b) {
		if told >= len(want) || !bytes.Equal(n.Least(), want[told]) {
			t.Errorf("number %d: %x", told, n.Least())
		}
		told++
	}
	if told != len(want) {
		t.Errorf("%d numbers, not %d", told, len(want))
	}
	for n := range numbers(nil) {
		t.Errorf("of no bytes: %x", n.Least())
	}
}

// Who has enough is told no more.
func TestNumbersEnd(t *testing.T) {
	told := 0
	for range numbers(make([]byte, 100)) {
		told++
		if told == 2 {
			break
		}
	}
	if told != 2 {
		t.Errorf("%d numbers, not 2", told)
	}
}

// The greatest sum that a tag is made of, and what is above 128 bits of it.
func TestLowest(t *testing.T) {
	largest := ring().Sub(nat.New(0), nat.New(1)).Add(number(bytes.Repeat([]byte{0xff}, 16)))
	if got, want := lowest(largest), append([]byte{0xf9}, bytes.Repeat([]byte{0xff}, 15)...); !bytes.Equal(got, want) {
		t.Errorf("%x, not %x", got, want)
	}
	if got, want := lowest(nat.New(0x0102)), append([]byte{2, 1}, make([]byte, 14)...); !bytes.Equal(got, want) {
		t.Errorf("%x, not %x", got, want)
	}
}
