package store_test

import (
	"bytes"
	"math"
	"math/rand"
	"testing"

	"sacristy/api"
	"sacristy/slab"
	"sacristy/store"
)

// P16.2

func TestSave(t *testing.T) {
	random := rand.New(rand.NewSource(4))
	for _, sectors := range append(sizes(), api.MaxSectors) {
		d := formatted(t, sectors)
		want := d.Twin()
		s, _ := mustOpen(t, d)
		for number := uint64(1); number < 40; number++ {
			state := drawn(random.Intn(min(roomOf(sectors), 300)+1), random)
			mustSave(t, s, state)
			// The flag of 1 is down, as Format left it; those of all others are up.
			if errno := carryOut(want, wantSave(sectors, number, state, number == 1)); errno != api.OK {
				t.Fatalf("error %d", errno)
			}
			checkSlabs(t, d, want)
			checkFound(t, d, state, number)
			if s.Number() != number {
				t.Fatalf("number %d, and not %d", s.Number(), number)
			}
		}
	}
}

// The bytes as they stand, told by hand.
func TestSavesBytes(t *testing.T) {
	d := formatted(t, 7)
	s, _ := mustOpen(t, d)
	mustSave(t, s, []byte("abc"))
	sum := "\xba\x78\x16\xbf\x8f\x01\xcf\xea\x41\x41\x40\xde\x5d\xae\x22\x23\xb0\x03\x61\xa3\x96\x17\x7a\x9c\xb4\x10\xff\x61\xf2\x00\x15\xad"
	area := "\x00\x00\x00\x00\x00\x00\x00\x01\x00\x00\x00\x03" + sum + "abc"
	for n, want := range map[int]string{0: "SACR", 1: "SACR", 3: "", 4: area, 5: "", 6: ""} {
		if b, errno := d.Face(n); errno != api.OK || !bytes.Equal(b, sector([]byte(want))) {
			t.Errorf("sector %d shows %x, error %d", n, b, errno)
		}
	}
}

func TestSaveOfEachLength(t *testing.T) {
	for _, sectors := range []int{4, 9, 12} {
		for length := range roomOf(sectors) + 1 {
			d := with(t, sectors, 4, full(1, 20))
			want := d.Twin()
			s, _ := mustOpen(t, d)
			state := full(byte(length), length)
			mustSave(t, s, state)
			if errno := carryOut(want, wantSave(sectors, 5, state, true)); errno != api.OK {
				t.Fatalf("error %d", errno)
			}
			checkSlabs(t, d, want)
			checkFound(t, d, state, 5)
		}
	}
}

// Of the area no more is written than what is needed, and what is needed has noughts behind it.
func TestSaveBehindALongerState(t *testing.T) {
	d := formatted(t, 12)
	s, _ := mustOpen(t, d)
	for i := range 2 {
		mustSave(t, s, full(byte(i+1), roomOf(12)))
	}
	mustSave(t, s, []byte("short"))
	for n, want := range [][]byte{7: sector(areaBytes(3, []byte("short"))), 8: full(1, 64), 9: full(1, 64), 10: full(1, 64), 11: full(1, 64)} {
		if b, _ := d.Face(n); n >= 7 && !bytes.Equal(b, want) {
			t.Errorf("sector %d shows %x", n, b)
		}
	}
	checkFound(t, d, []byte("short"), 3)
}

func TestSaveOfNothing(t *testing.T) {
	for _, nothing := range [][]byte{nil, {}} {
		d := formatted(t, 4)
		s, _ := mustOpen(t, d)
		mustSave(t, s, []byte("one"))
		mustSave(t, s, nothing)
		checkFound(t, d, nil, 2)
	}
}

// A flag is up whatever its bytes are, and is inked with noughts then; one that is down isn't.
func TestSaveWithAnyFlag(t *testing.T) {
	for at := range api.SectorSize + 1 {
		d := with(t, 4, 2, []byte("two"))
		flag := noughts()
		if at < api.SectorSize {
			flag[at] = 1
		}
		mustInk(t, d, 1, flag)
		mustBurn(t, d)
		want := d.Twin()
		s, _ := mustOpen(t, d)
		mustSave(t, s, []byte("three"))
		carryOut(want, wantSave(4, 3, []byte("three"), at == api.SectorSize))
		checkSlabs(t, d, want)
	}
}

// At each stroke: what is inked, what is burnt, and in which order.
func TestSaveWithoutPower(t *testing.T) {
	for _, sectors := range []int{4, 7, 10} {
		for _, length := range []int{0, 20, 21, 84, 85, 148, 149, 212} {
			for _, down := range []bool{false, true} {
				if length <= roomOf(sectors) {
					checkEachSupply(t, sectors, full(9, length), down)
				}
			}
		}
	}
}

func checkEachSupply(t *testing.T, sectors int, state []byte, down bool) {
	t.Helper()
	whole := wantSave(sectors, 8, state, down)
	for supply := range strokesOf(whole) + 3 {
		d := with(t, sectors, 7, []byte("seven"))
		if !down {
			mustInk(t, d, 0, full(1, 64))
			mustBurn(t, d)
		}
		s, _ := mustOpen(t, d)
		d.Supply(supply)
		want := d.Twin()
		got, told := s.Save(state), carryOut(want, whole)
		if got != told || (got == api.OK) != (supply >= strokesOf(whole)) || got != api.OK && got != api.ErrDead {
			t.Errorf("supply %d: error %d, and not %d", supply, got, told)
		}
		checkSlabs(t, d, want)
		if number := s.Number(); number != 7 && got != api.OK || number != 8 && got == api.OK {
			t.Errorf("supply %d: number %d beside error %d", supply, number, got)
		}
	}
}

func TestErrLong(t *testing.T) {
	for _, sectors := range append(sizes(), 2048, api.MaxSectors) {
		d := formatted(t, sectors)
		s, _ := mustOpen(t, d)
		want := d.Twin()
		for _, more := range []int{1, 2, 44, 64, 1 << 20} {
			if errno := s.Save(make([]byte, s.Room()+more)); errno != api.ErrLong {
				t.Errorf("%d bytes more than there is room for: error %d", more, errno)
			}
		}
		checkSlabs(t, d, want)
		if s.Number() != 0 {
			t.Errorf("number %d", s.Number())
		}
		state := full(3, s.Room())
		mustSave(t, s, state)
		checkFound(t, d, state, 1)
	}
}

func TestErrDeadEverAfter(t *testing.T) {
	for supply := range 4 {
		d := formatted(t, 4)
		s, _ := mustOpen(t, d)
		d.Supply(supply)
		if errno := s.Save([]byte("one")); errno != api.ErrDead {
			t.Errorf("supply %d: error %d", supply, errno)
		}
		for range 2 {
			want := d.Twin()
			for _, state := range [][]byte{nil, []byte("two"), make([]byte, 21)} {
				if errno := s.Save(state); errno != api.ErrDead {
					t.Errorf("supply %d: then error %d", supply, errno)
				}
			}
			checkSlabs(t, d, want)
			if s.Number() != 0 || s.Room() != 20 {
				t.Errorf("supply %d: number %d, room for %d", supply, s.Number(), s.Room())
			}
			d.Wake()
		}
		// Another store of the slab isn't dead.
		other, _ := mustOpen(t, d)
		mustSave(t, other, []byte("one more"))
		checkFound(t, d, []byte("one more"), 1)
	}
}

// A state that is too long is told ahead of the power that has gone, if no Save came to that before.
func TestErrLongWithoutPower(t *testing.T) {
	d := formatted(t, 4)
	s, _ := mustOpen(t, d)
	d.Supply(0)
	if errno := s.Save(make([]byte, 21)); errno != api.ErrLong {
		t.Errorf("error %d", errno)
	}
	d.Wake()
	mustSave(t, s, make([]byte, 20))
	d.Supply(0)
	for _, length := range []int{20, 21} {
		if errno := s.Save(make([]byte, length)); errno != api.ErrDead {
			t.Errorf("%d bytes: error %d", length, errno)
		}
	}
}

// The last stroke was enough: it is saved, though the slab is out behind it.
func TestSaveByTheLastStroke(t *testing.T) {
	d := formatted(t, 4)
	s, _ := mustOpen(t, d)
	d.Supply(4)
	mustSave(t, s, []byte("one"))
	if !d.Out() || s.Number() != 1 {
		t.Errorf("out %v, number %d", d.Out(), s.Number())
	}
	d.Wake()
	checkFound(t, d, []byte("one"), 1)
	mustSave(t, s, []byte("two"))
	checkFound(t, d, []byte("two"), 2)
}

// Behind the last number comes 0.
func TestNumbersGoRound(t *testing.T) {
	d := with(t, 6, math.MaxUint64, []byte("last"))
	s, _ := mustOpen(t, d)
	want := d.Twin()
	mustSave(t, s, []byte("first"))
	carryOut(want, wantSave(6, 0, []byte("first"), true))
	checkSlabs(t, d, want)
	if s.Number() != 0 {
		t.Errorf("number %d", s.Number())
	}
	mustSave(t, s, []byte("second"))
	carryOut(want, wantSave(6, 1, []byte("second"), false))
	checkSlabs(t, d, want)
	checkFound(t, d, []byte("second"), 1)
}

// Numbers have 64 bits.
func TestGreatNumbers(t *testing.T) {
	for _, number := range []uint64{1<<31 - 1, 1<<32 - 1, 1<<32 + 7, 1<<53 + 1, 1<<63 - 2, 1<<63 - 1, 1 << 63, math.MaxUint64 - 3} {
		d := with(t, 5, number, []byte("it"))
		s, _ := mustOpen(t, d)
		for i := range uint64(3) {
			mustSave(t, s, full(byte(i), 20))
			checkFound(t, d, full(byte(i), 20), number+1+i)
		}
	}
}

// A store goes on from its own number, whatever another one of the same slab does.
func TestTwoStores(t *testing.T) {
	d := formatted(t, 6)
	one, _ := mustOpen(t, d)
	other, _ := mustOpen(t, d)
	mustSave(t, one, []byte("one's"))
	if other.Number() != 0 {
		t.Errorf("number %d", other.Number())
	}
	want := d.Twin()
	mustSave(t, other, []byte("the other's"))
	carryOut(want, wantSave(6, 1, []byte("the other's"), false))
	checkSlabs(t, d, want)
	checkFound(t, d, []byte("the other's"), 1)
	if one.Number() != 1 || other.Number() != 1 {
		t.Errorf("numbers %d and %d", one.Number(), other.Number())
	}
}

// Stores of unlike slabs are apart.
func TestStoresAreApart(t *testing.T) {
	var slabs []*slab.Slab
	var stores []*store.Store
	for i := range 4 {
		slabs = append(slabs, formatted(t, 4+2*i))
		s, _ := mustOpen(t, slabs[i])
		stores = append(stores, s)
	}
	for i, s := range stores {
		for k := range i {
			mustSave(t, s, []byte{byte(i), byte(k)})
		}
	}
	checkFound(t, slabs[0], nil, 0)
	for i := 1; i < 4; i++ {
		checkFound(t, slabs[i], []byte{byte(i), byte(i - 1)}, uint64(i))
	}
}

func TestStatesHandedIn(t *testing.T) {
	for _, length := range []int{0, 19, 20, 21, 63, 64, 84, 100} {
		spare := full(7, 300)
		state := spare[:length]
		d := formatted(t, 10)
		s, _ := mustOpen(t, d)
		mustSave(t, s, state)
		if !bytes.Equal(spare, full(7, 300)) {
			t.Errorf("%d bytes: what was handed in is %x", length, spare)
		}
		clear(spare)
		checkFound(t, d, full(7, length), 1)
		d.Wake()
		checkFound(t, d, full(7, length), 1)
	}
}

func TestNoStore(t *testing.T) {
	var s *store.Store
	for _, state := range [][]byte{nil, {}, []byte("a"), make([]byte, 1<<20)} {
		if errno := s.Save(state); errno != api.ErrArg {
			t.Errorf("Save: error %d", errno)
		}
	}
	if s.Number() != 0 || s.Room() != 0 {
		t.Errorf("number %d, room for %d", s.Number(), s.Room())
	}
}
