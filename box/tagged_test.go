package box

import (
	"bytes"
	"math"
	"slices"
	"testing"

	"sacristy/api"
)

// RFC 8439's section 2.8.2: the tag's key, and what the tag is of.
func TestKnownTagged(t *testing.T) {
	key := make([]byte, 32)
	for i := range key {
		key[i] = byte(0x80 + i)
	}
	once, errno := tagKey(key, []byte{7, 0, 0, 0, 0x40, 0x41, 0x42, 0x43, 0x44, 0x45, 0x46, 0x47})
	want := []byte{
		0x7b, 0xac, 0x2b, 0x25, 0x2d, 0xb4, 0x47, 0xaf, 0x09, 0xb6, 0x7a, 0x55, 0xa4, 0xe9, 0x55, 0x84,
		0x0a, 0xe1, 0xd6, 0x73, 0x10, 0x75, 0xd9, 0xeb, 0x2a, 0x93, 0x75, 0x78, 0x3e, 0xd5, 0x53, 0xff,
	}
	if errno != api.OK || !bytes.Equal(once, want) {
		t.Errorf("the tag's key: %x, error %d", once, errno)
	}
	side, sealed := bytes.Repeat([]byte{1}, 12), bytes.Repeat([]byte{2}, 114)
	told := tagged(side, sealed)
	if !bytes.Equal(told, slices.Concat(side, make([]byte, 4), sealed, make([]byte, 14), []byte{12, 0, 0, 0, 0, 0, 0, 0, 114, 0, 0, 0, 0, 0, 0, 0})) {
		t.Errorf("what the tag is of: %x", told)
	}
}

func TestNoughts(t *testing.T) {
	for n := range 100 {
		want := 0
		for (n+want)%16 != 0 {
			want++
		}
		if got := noughts(n); len(got) != want || bytes.Trim(got, "\x00") != nil {
			t.Errorf("behind %d bytes: %x, not %d noughts", n, got, want)
		}
	}
}

func TestLength(t *testing.T) {
	for _, c := range []struct {
		n    int
		want []byte
	}{
		{0, []byte{0, 0, 0, 0, 0, 0, 0, 0}},
		{1, []byte{1, 0, 0, 0, 0, 0, 0, 0}},
		{255, []byte{255, 0, 0, 0, 0, 0, 0, 0}},
		{256, []byte{0, 1, 0, 0, 0, 0, 0, 0}},
		{0x01020304, []byte{4, 3, 2, 1, 0, 0, 0, 0}},
		{math.MaxInt32, []byte{255, 255, 255, 127, 0, 0, 0, 0}},
	} {
		if got := length(c.n); !bytes.Equal(got, c.want) {
			t.Errorf("%d: %x, not %x", c.n, got, c.want)
		}
	}
}

// Unlike pairs are told in unlike bytes, wherever the border is, and however many noughts stand about it.
func TestTaggedTellsPairsApart(t *testing.T) {
	seen := map[string][2]int{}
	for whole := range 70 {
		b := make([]byte, whole)
		for i := range whole + 1 {
			told := string(tagged(b[:i], b[i:]))
			if at, ok := seen[told]; ok {
				t.Errorf("%d and %d noughts are told as %d and %d", i, whole-i, at[0], at[1])
			}
			seen[told] = [2]int{i, whole - i}
		}
	}
}
