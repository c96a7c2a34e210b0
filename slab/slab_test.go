package slab_test

import (
	"math"
	"slices"
	"testing"

	"sacristy/api"
	"sacristy/slab"
)

// The document's example.
func TestExample(t *testing.T) {
	s := mustNew(t, 8)
	s.Supply(3)
	mustInk(t, s, 5, full(50))
	mustInk(t, s, 2, full(20))
	if errno := s.Burn(); errno != api.ErrDead {
		t.Errorf("error %d", errno)
	}
	checkOut(t, s, true)
	checkInked(t, s, 5)
	checkStrokes(t, s, 3)
	s.Wake()
	checkFace(t, s, 2, full(20))
	checkFace(t, s, 5, noughts())
}

// P15.1

func TestNew(t *testing.T) {
	for _, sectors := range []int{4, 5, 10, 2048, 4095, 4096} {
		s := mustNew(t, sectors)
		if got := s.Sectors(); got != sectors {
			t.Errorf("%d sectors, and not %d", got, sectors)
		}
		for n := range sectors {
			checkFace(t, s, n, noughts())
		}
		checkInked(t, s)
		checkOut(t, s, false)
		checkStrokes(t, s, 0)
	}
	for _, sectors := range []int{3, 2, 1, 0, -1, -4, -4096, 4097, 1 << 31, 1<<32 + 4, math.MinInt, math.MaxInt} {
		if slab.New(sectors) != nil {
			t.Errorf("a slab of %d sectors", sectors)
		}
	}
}

func TestSupplyIsEndlessAtFirst(t *testing.T) {
	s := mustNew(t, 4)
	for i := range 100000 {
		mustInk(t, s, i%4, full(byte(i)))
		if i%3 == 0 {
			mustBurn(t, s)
		}
	}
	checkOut(t, s, false)
}

func TestFace(t *testing.T) {
	s := mustNew(t, 6)
	mustInk(t, s, 3, full(1))
	checkFace(t, s, 3, full(1))
	mustBurn(t, s)
	checkFace(t, s, 3, full(1))
	mustInk(t, s, 3, full(2))
	checkFace(t, s, 3, full(2))
	checkFace(t, s, 2, noughts())
	checkFace(t, s, 4, noughts())
	mustInk(t, s, 0, full(5))
	mustInk(t, s, 5, full(6))
	checkFace(t, s, 0, full(5))
	checkFace(t, s, 5, full(6))
}

func TestInkTakesThePlaceOfInk(t *testing.T) {
	s := mustNew(t, 4)
	mustInk(t, s, 1, full(1))
	mustInk(t, s, 1, full(2))
	checkFace(t, s, 1, full(2))
	checkInked(t, s, 1)
	checkStrokes(t, s, 2)
	mustBurn(t, s)
	checkStrokes(t, s, 3)
	checkFace(t, s, 1, full(2))
}

// Each byte stands where it stood.
func TestAllBytesStay(t *testing.T) {
	s := mustNew(t, 4)
	b := make([]byte, api.SectorSize)
	for i := range b {
		b[i] = byte(i*5 + 1)
	}
	mustInk(t, s, 2, b)
	checkFace(t, s, 2, b)
	mustBurn(t, s)
	checkFace(t, s, 2, b)
}

func TestSectorsThatArent(t *testing.T) {
	for _, sectors := range []int{4, 9, 4096} {
		s := mustNew(t, sectors)
		for _, n := range beyond(sectors) {
			if n == api.MaxSectors && n < sectors {
				continue
			}
			if _, errno := s.Face(n); errno != api.ErrRange {
				t.Errorf("Face of %d of %d: error %d", n, sectors, errno)
			}
			for _, b := range [][]byte{full(1), nil, full(1)[1:]} {
				if errno := s.Ink(n, b); errno != api.ErrRange {
					t.Errorf("Ink of %d of %d: error %d", n, sectors, errno)
				}
			}
		}
		checkInked(t, s)
		checkStrokes(t, s, 0)
	}
}

func TestInkOfOtherLengths(t *testing.T) {
	s := mustNew(t, 4)
	mustInk(t, s, 0, full(9))
	s.Supply(7)
	for _, count := range []int{0, 1, 32, 63, 65, 128, 4096} {
		for _, n := range []int{0, 1} {
			if errno := s.Ink(n, make([]byte, count)); errno != api.ErrForm {
				t.Errorf("%d bytes: error %d", count, errno)
			}
		}
	}
	if errno := s.Ink(1, nil); errno != api.ErrForm {
		t.Errorf("no bytes: error %d", errno)
	}
	checkInked(t, s, 0)
	checkFace(t, s, 0, full(9))
	checkStrokes(t, s, 1)
	if got := left(s, 20); got != 7 {
		t.Errorf("%d strokes are left", got)
	}
}

// Out comes ahead of all other errors.
func TestOutIsTheFirstError(t *testing.T) {
	s := mustNew(t, 4)
	mustInk(t, s, 1, full(1))
	s.Supply(0)
	for _, n := range append(beyond(4), 0, 1, 3) {
		if _, errno := s.Face(n); errno != api.ErrDead {
			t.Errorf("Face of %d: error %d", n, errno)
		}
		for _, b := range [][]byte{full(2), nil, full(1)[1:]} {
			if errno := s.Ink(n, b); errno != api.ErrDead {
				t.Errorf("Ink of %d: error %d", n, errno)
			}
		}
	}
	if errno := s.Burn(); errno != api.ErrDead {
		t.Errorf("Burn: error %d", errno)
	}
	checkInked(t, s, 1)
	checkStrokes(t, s, 1)
}

// P15.2

// Each supply for a handful of sectors, inked in no order: so many burn, from the lowest on.
func TestBurn(t *testing.T) {
	inked := []int{6, 0, 7, 3, 4}
	rising := slices.Sorted(slices.Values(inked))
	for supply := 1; supply <= 7; supply++ {
		s := mustNew(t, 8)
		for _, n := range inked {
			mustInk(t, s, n, full(byte(10+n)))
		}
		s.Supply(supply)
		want, burnt := api.OK, min(supply, len(rising))
		if supply < len(rising) {
			want = api.ErrDead
		}
		if errno := s.Burn(); errno != want {
			t.Errorf("supply %d: error %d", supply, errno)
		}
		checkOut(t, s, supply <= len(rising))
		checkStrokes(t, s, len(inked)+burnt)
		checkInked(t, s, rising[burnt:]...)
		s.Wake()
		for i, n := range rising {
			face := noughts()
			if i < burnt {
				face = full(byte(10 + n))
			}
			checkFace(t, s, n, face)
		}
	}
}

// Each set of sectors.
func TestBurnOfAnySet(t *testing.T) {
	for set := range 64 {
		s := mustNew(t, 6)
		var inked []int
		for n := range 6 {
			if set>>n&1 == 1 {
				inked = append(inked, n)
			}
		}
		for _, n := range slices.Backward(inked) {
			mustInk(t, s, n, full(byte(n+1)))
		}
		checkInked(t, s, inked...)
		mustBurn(t, s)
		checkInked(t, s)
		checkStrokes(t, s, 2*len(inked))
		for n := range 6 {
			face := noughts()
			if slices.Contains(inked, n) {
				face = full(byte(n + 1))
			}
			checkFace(t, s, n, face)
		}
	}
}

func TestBurnOfNothing(t *testing.T) {
	s := mustNew(t, 4)
	s.Supply(1)
	for range 5 {
		mustBurn(t, s)
	}
	checkStrokes(t, s, 0)
	checkOut(t, s, false)
	s.Supply(0)
	if errno := s.Burn(); errno != api.ErrDead {
		t.Errorf("error %d", errno)
	}
}

// The very last stroke burns; then the slab is out, though all was burnt.
func TestBurnWithTheLastStroke(t *testing.T) {
	s := mustNew(t, 4)
	s.Supply(2)
	mustInk(t, s, 3, full(8))
	checkOut(t, s, false)
	mustBurn(t, s)
	checkOut(t, s, true)
	if errno := s.Burn(); errno != api.ErrDead {
		t.Errorf("error %d", errno)
	}
	s.Wake(slab.Scar{Sector: 3, Bytes: full(9)})
	checkFace(t, s, 3, full(8))
}

// What is burnt stays burnt by one Burn alone; ink behind it isn't.
func TestInkBehindBurn(t *testing.T) {
	s := mustNew(t, 4)
	mustInk(t, s, 1, full(1))
	mustBurn(t, s)
	mustInk(t, s, 1, full(2))
	mustInk(t, s, 2, full(3))
	checkFace(t, s, 1, full(2))
	s.Wake()
	checkFace(t, s, 1, full(1))
	checkFace(t, s, 2, noughts())
}
