package slab_test

import (
	"math"
	"reflect"
	"slices"
	"testing"

	"sacristy/api"
	"sacristy/slab"
)

// P15.3

func TestSupply(t *testing.T) {
	for _, strokes := range []int{1, 2, 3, 10} {
		s := mustNew(t, 4)
		mustInk(t, s, 0, full(1))
		s.Supply(strokes)
		for range strokes {
			checkOut(t, s, false)
			mustInk(t, s, 2, full(2))
		}
		checkOut(t, s, true)
		if errno := s.Ink(2, full(3)); errno != api.ErrDead {
			t.Errorf("supply %d: error %d", strokes, errno)
		}
		checkStrokes(t, s, strokes+1)
	}
}

func TestNoSupply(t *testing.T) {
	s := mustNew(t, 4)
	s.Supply(0)
	checkOut(t, s, true)
	if errno := s.Ink(0, full(1)); errno != api.ErrDead {
		t.Errorf("error %d", errno)
	}
	checkStrokes(t, s, 0)
}

// A supply is from now on: it doesn't come to what was left.
func TestSupplyTakesThePlaceOfTheOther(t *testing.T) {
	for _, first := range []int{-1, 1, 5, 50, math.MaxInt} {
		for _, second := range []int{1, 4, 9} {
			s := mustNew(t, 4)
			s.Supply(first)
			s.Supply(second)
			if got := left(s, 100); got != second {
				t.Errorf("supply %d, then %d: %d strokes are left", first, second, got)
			}
		}
	}
}

func TestEndlessSupply(t *testing.T) {
	for _, strokes := range []int{-1, -2, -3, -1000, math.MinInt, math.MaxInt} {
		s := mustNew(t, 4)
		s.Supply(3)
		mustInk(t, s, 0, full(1))
		s.Supply(strokes)
		if got := left(s, 20000); got != 20000 {
			t.Errorf("supply %d: %d strokes are left", strokes, got)
		}
		checkOut(t, s, false)
	}
}

func TestOutStays(t *testing.T) {
	s := mustNew(t, 4)
	s.Supply(1)
	mustInk(t, s, 2, full(1))
	for _, strokes := range []int{5, 0, -1, 1, math.MaxInt, math.MinInt} {
		s.Supply(strokes)
		checkOut(t, s, true)
		if errno := s.Burn(); errno != api.ErrDead {
			t.Errorf("supply %d: error %d", strokes, errno)
		}
	}
	checkInked(t, s, 2)
	s.Wake()
	// And what was told a slab that was out is nothing to it later.
	if got := left(s, 1000); got != 1000 {
		t.Errorf("%d strokes are left", got)
	}
}

func TestInked(t *testing.T) {
	s := mustNew(t, 12)
	for _, n := range []int{9, 11, 0, 5, 10, 5, 2} {
		mustInk(t, s, n, full(1))
	}
	checkInked(t, s, 0, 2, 5, 9, 10, 11)
	mustBurn(t, s)
	checkInked(t, s)
	mustInk(t, s, 9, full(1))
	checkInked(t, s, 9)
	s.Wake()
	checkInked(t, s)
}

// Ink that shows what is burnt is ink.
func TestInkOfTheSameBytes(t *testing.T) {
	s := mustNew(t, 4)
	mustInk(t, s, 1, noughts())
	checkInked(t, s, 1)
	checkStrokes(t, s, 1)
	s.Wake(slab.Scar{Sector: 1, Bytes: full(4)})
	checkFace(t, s, 1, full(4))
}

func TestStrokes(t *testing.T) {
	s := mustNew(t, 4)
	mustInk(t, s, 1, full(1))
	mustInk(t, s, 3, full(1))
	checkStrokes(t, s, 2)
	mustBurn(t, s)
	checkStrokes(t, s, 4)
	s.Supply(2)
	checkStrokes(t, s, 4)
	mustInk(t, s, 0, full(1))
	s.Wake(slab.Scar{Sector: 0})
	checkStrokes(t, s, 5)
	s.Face(0)
	s.Twin().Ink(0, full(1))
	checkStrokes(t, s, 5)
}

func TestWake(t *testing.T) {
	s := mustNew(t, 6)
	mustInk(t, s, 1, full(1))
	mustInk(t, s, 2, full(2))
	mustBurn(t, s)
	s.Supply(3)
	mustInk(t, s, 2, full(3))
	mustInk(t, s, 3, full(4))
	mustInk(t, s, 4, full(5))
	s.Wake(slab.Scar{Sector: 3, Bytes: full(7)})
	checkOut(t, s, false)
	checkInked(t, s)
	for n, want := range [][]byte{noughts(), full(1), full(2), full(7), noughts(), noughts()} {
		checkFace(t, s, n, want)
	}
	if got := left(s, 1000); got != 1000 {
		t.Errorf("%d strokes are left", got)
	}
	// What a scar left lasts as what is burnt.
	s.Wake()
	checkFace(t, s, 3, full(7))
}

// The power may go with strokes left.
func TestWakeOfOneThatIsntOut(t *testing.T) {
	s := mustNew(t, 4)
	s.Supply(9)
	mustInk(t, s, 1, full(1))
	mustInk(t, s, 2, full(2))
	s.Wake(slab.Scar{Sector: 2, Bytes: full(3)})
	checkInked(t, s)
	checkFace(t, s, 1, noughts())
	checkFace(t, s, 2, full(3))
	if got := left(s, 1000); got != 1000 {
		t.Errorf("%d strokes are left", got)
	}
}

func TestScarsBytes(t *testing.T) {
	for _, count := range []int{0, 1, 31, 63, 64, 65, 66, 128, 5000} {
		s := mustNew(t, 4)
		mustInk(t, s, 1, full(1))
		mustBurn(t, s)
		mustInk(t, s, 1, full(2))
		b := make([]byte, count)
		for i := range b {
			b[i] = byte(i + 1)
		}
		want := append(slices.Clone(b), noughts()...)[:api.SectorSize]
		s.Wake(slab.Scar{Sector: 1, Bytes: b})
		checkFace(t, s, 1, want)
	}
}

// A scar without bytes is noughts, where no scar is what was burnt.
func TestScarWithoutBytes(t *testing.T) {
	for _, b := range [][]byte{nil, {}} {
		s := mustNew(t, 4)
		mustInk(t, s, 1, full(1))
		mustInk(t, s, 2, full(1))
		mustBurn(t, s)
		mustInk(t, s, 1, full(2))
		mustInk(t, s, 2, full(2))
		s.Wake(slab.Scar{Sector: 1, Bytes: b})
		checkFace(t, s, 1, noughts())
		checkFace(t, s, 2, full(1))
	}
}

func TestTheLastScarCounts(t *testing.T) {
	s := mustNew(t, 6)
	for n := range 3 {
		mustInk(t, s, n, full(1))
	}
	scars := []slab.Scar{{0, full(2)}, {1, full(3)}, {0, full(4)}, {2, full(5)}, {1, full(6)}, {0, []byte{7}}, {2, full(8)}}
	s.Wake(scars...)
	checkFace(t, s, 0, append([]byte{7}, noughts()[1:]...))
	checkFace(t, s, 1, full(6))
	checkFace(t, s, 2, full(8))
}

func TestScarsOfOthers(t *testing.T) {
	s := mustNew(t, 6)
	mustInk(t, s, 4, full(1))
	mustBurn(t, s)
	mustInk(t, s, 2, full(2))
	scars := []slab.Scar{{2, full(3)}, {4, full(4)}, {0, full(5)}, {5, full(6)}}
	for _, n := range beyond(6) {
		scars = append(scars, slab.Scar{Sector: n, Bytes: full(9)})
	}
	s.Wake(scars...)
	for n, want := range [][]byte{noughts(), noughts(), full(3), noughts(), full(1), noughts()} {
		checkFace(t, s, n, want)
	}
	checkInked(t, s)
	// Nor do they wait for ink that comes later.
	mustInk(t, s, 5, full(7))
	s.Wake()
	checkFace(t, s, 5, noughts())
}

// A scar of an inked sector that a Burn came to is none's; one that it didn't come to is.
func TestScarsBehindABurn(t *testing.T) {
	s := mustNew(t, 4)
	s.Supply(4)
	for _, n := range []int{3, 1, 2} {
		mustInk(t, s, n, full(byte(n)))
	}
	if errno := s.Burn(); errno != api.ErrDead {
		t.Errorf("error %d", errno)
	}
	s.Wake(slab.Scar{Sector: 1, Bytes: full(11)}, slab.Scar{Sector: 2, Bytes: full(12)})
	for n, want := range [][]byte{noughts(), full(1), full(12), noughts()} {
		checkFace(t, s, n, want)
	}
}

func TestTwin(t *testing.T) {
	s := mustNew(t, 5)
	mustInk(t, s, 1, full(1))
	mustBurn(t, s)
	mustInk(t, s, 2, full(2))
	s.Supply(6)
	twin := s.Twin()
	if twin.Sectors() != 5 || left(twin, 100) != 6 {
		t.Errorf("%d sectors, %d strokes are left", twin.Sectors(), left(twin, 100))
	}
	checkStrokes(t, twin, 3)
	checkInked(t, twin, 2)
	checkFace(t, twin, 1, full(1))
	checkFace(t, twin, 2, full(2))
	// Each goes its own way.
	mustInk(t, twin, 3, full(3))
	mustBurn(t, twin)
	checkInked(t, s, 2)
	checkFace(t, s, 3, noughts())
	checkStrokes(t, s, 3)
	mustInk(t, s, 4, full(4))
	checkFace(t, twin, 4, noughts())
	s.Wake()
	checkFace(t, s, 2, noughts())
	checkFace(t, twin, 2, full(2))
	if left(twin, 100) != 3 || left(s, 100) != 100 {
		t.Errorf("%d and %d strokes are left", left(twin, 100), left(s, 100))
	}
}

func TestTwinOfOneThatIsOut(t *testing.T) {
	s := mustNew(t, 4)
	s.Supply(1)
	mustInk(t, s, 3, full(1))
	twin := s.Twin()
	checkOut(t, twin, true)
	checkInked(t, twin, 3)
	twin.Wake(slab.Scar{Sector: 3, Bytes: full(2)})
	checkOut(t, twin, false)
	checkOut(t, s, true)
	checkInked(t, s, 3)
	checkFace(t, twin, 3, full(2))
}

func TestNoSlab(t *testing.T) {
	var s *slab.Slab
	for _, n := range []int{-1, 0, 4} {
		if b, errno := s.Face(n); b != nil || errno != api.ErrArg {
			t.Errorf("Face: %x, error %d", b, errno)
		}
		for _, b := range [][]byte{nil, full(1)} {
			if errno := s.Ink(n, b); errno != api.ErrArg {
				t.Errorf("Ink: error %d", errno)
			}
		}
		s.Supply(n)
		s.Wake(slab.Scar{Sector: n, Bytes: full(1)})
	}
	if errno := s.Burn(); errno != api.ErrArg {
		t.Errorf("Burn: error %d", errno)
	}
	s.Wake()
	if s.Sectors() != 0 || s.Out() || len(s.Inked()) != 0 || s.Strokes() != 0 || s.Twin() != nil {
		t.Error("no slab has something")
	}
}

// P15.4

// Sectors beside it, and the power, come and go; the burnt face is the same.
func TestABurntFaceStays(t *testing.T) {
	s := mustNew(t, 8)
	mustInk(t, s, 3, full(33))
	mustBurn(t, s)
	for i := range 200 {
		n := []int{0, 1, 2, 4, 5, 6, 7}[i%7]
		s.Supply(1 + i%3)
		s.Ink(n, full(byte(i)))
		s.Burn()
		s.Wake(slab.Scar{Sector: 3, Bytes: full(9)}, slab.Scar{Sector: n, Bytes: full(8)})
		checkFace(t, s, 3, full(33))
	}
}

// given: bytes with room behind them, in which something stands.
func given(b byte) []byte { return append(full(b), full(b+1)...)[:api.SectorSize] }

// Neither bytes nor scars change, nor the room behind them.
func TestNothingChanges(t *testing.T) {
	s := mustNew(t, 4)
	b, short := given(1), given(3)[:10]
	scars := append(make([]slab.Scar, 0, 4), slab.Scar{Sector: 2, Bytes: short}, slab.Scar{Sector: 1, Bytes: b}, slab.Scar{Sector: 2, Bytes: full(7)})[:2]
	mustInk(t, s, 1, b)
	mustInk(t, s, 2, b)
	mustBurn(t, s)
	mustInk(t, s, 2, b)
	s.Wake(scars...)
	if !reflect.DeepEqual(b[:2*api.SectorSize], given(1)[:2*api.SectorSize]) || !reflect.DeepEqual(short[:2*api.SectorSize], given(3)[:2*api.SectorSize]) {
		t.Error("bytes that were handed in have changed")
	}
	want := []slab.Scar{{2, short}, {1, b}, {2, full(7)}, {}}
	if !reflect.DeepEqual(scars[:4], want) {
		t.Error("scars that were handed in have changed")
	}
}

// What is done to bytes and scars later is nothing to the slab.
func TestNothingIsKept(t *testing.T) {
	s := mustNew(t, 4)
	b := full(1)
	mustInk(t, s, 1, b)
	clear(b)
	checkFace(t, s, 1, full(1))
	mustBurn(t, s)
	b = full(2)
	mustInk(t, s, 2, b)
	mustInk(t, s, 3, b)
	scars := []slab.Scar{{2, b}, {3, full(3)}}
	s.Wake(scars...)
	clear(b)
	clear(scars)
	for n, want := range [][]byte{noughts(), full(1), full(2), full(3)} {
		checkFace(t, s, n, want)
	}
}

// What is done to an answer, or to the room behind it, is nothing to the slab, nor to its twin.
func TestAnswersAreNewMemory(t *testing.T) {
	s := mustNew(t, 4)
	mustInk(t, s, 1, full(1))
	mustBurn(t, s)
	mustInk(t, s, 2, full(2))
	mustInk(t, s, 3, full(3))
	twin := s.Twin()
	for n := range 4 {
		first, _ := s.Face(n)
		second, _ := s.Face(n)
		for i := range first[:cap(first)] {
			first[:cap(first)][i] = 99
		}
		if !slices.Equal(second, full(byte(n))) {
			t.Errorf("sector %d: %x", n, second)
		}
		checkFace(t, s, n, full(byte(n)))
		checkFace(t, twin, n, full(byte(n)))
	}
	first, second := s.Inked(), s.Inked()
	clear(first[:cap(first)])
	if !slices.Equal(second, []int{2, 3}) {
		t.Errorf("inked are %v", second)
	}
	checkInked(t, s, 2, 3)
	checkInked(t, twin, 2, 3)
}
