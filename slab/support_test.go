package slab_test

import (
	"bytes"
	"math"
	"math/rand"
	"slices"
	"testing"

	"sacristy/api"
	"sacristy/slab"
)

// full: a sector's bytes, all of them this one.
func full(b byte) []byte { return bytes.Repeat([]byte{b}, api.SectorSize) }

// noughts: what a sector shows at first.
func noughts() []byte { return make([]byte, api.SectorSize) }

// drawn: any bytes.
func drawn(count int, random *rand.Rand) []byte {
	b := make([]byte, count)
	random.Read(b)
	return b
}

// beyond: sectors that a slab of so many hasn't.
func beyond(sectors int) []int {
	return []int{-1, -2, -sectors, sectors, sectors + 1, api.MaxSectors, 1 << 32, math.MinInt, math.MaxInt}
}

func mustNew(t *testing.T, sectors int) *slab.Slab {
	t.Helper()
	s := slab.New(sectors)
	if s == nil {
		t.Fatalf("no slab of %d sectors", sectors)
	}
	return s
}

func mustInk(t *testing.T, s *slab.Slab, n int, b []byte) {
	t.Helper()
	if errno := s.Ink(n, b); errno != api.OK {
		t.Fatalf("Ink of sector %d: error %d", n, errno)
	}
}

func mustBurn(t *testing.T, s *slab.Slab) {
	t.Helper()
	if errno := s.Burn(); errno != api.OK {
		t.Fatalf("Burn: error %d", errno)
	}
}

func checkFace(t *testing.T, s *slab.Slab, n int, want []byte) {
	t.Helper()
	if got, errno := s.Face(n); errno != api.OK || !bytes.Equal(got, want) {
		t.Errorf("sector %d shows %x, error %d, and not %x", n, got, errno, want)
	}
}

func checkInked(t *testing.T, s *slab.Slab, want ...int) {
	t.Helper()
	if got := s.Inked(); !slices.Equal(got, want) {
		t.Errorf("inked are %v, and not %v", got, want)
	}
}

func checkStrokes(t *testing.T, s *slab.Slab, want int) {
	t.Helper()
	if got := s.Strokes(); got != want {
		t.Errorf("%d strokes, and not %d", got, want)
	}
}

func checkOut(t *testing.T, s *slab.Slab, want bool) {
	t.Helper()
	if got := s.Out(); got != want {
		t.Errorf("out is %v", got)
	}
}

// left: how many strokes a slab's supply has, told by a twin that makes them; more than these are endless.
func left(s *slab.Slab, most int) int {
	twin := s.Twin()
	count := 0
	for !twin.Out() && count < most {
		twin.Ink(0, full(0))
		count++
	}
	return count
}
