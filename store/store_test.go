package store_test

import (
	"bytes"
	"encoding/binary"
	"math"
	"math/rand"
	"slices"
	"testing"

	"sacristy/api"
	"sacristy/slab"
	"sacristy/store"
)

// sizes: of slabs; odd ones have a sector that belongs to no area.
func sizes() []int { return []int{4, 5, 6, 7, 10, 11, 64} }

// The document's example.
func TestExample(t *testing.T) {
	d := formatted(t, 10)
	s, _ := mustOpen(t, d)
	if got := s.Room(); got != 212 {
		t.Errorf("room for %d", got)
	}
	mustSave(t, s, full(7, 212))
	for n := 3; n < 10; n++ {
		b, _ := d.Face(n)
		// Sectors 2 to 5 are the first area, of which Format wrote the first sector.
		if written := !bytes.Equal(b, noughts()); written != (n >= 6) {
			t.Errorf("sector %d shows %x", n, b)
		}
	}
}

// P16.1

func TestFormat(t *testing.T) {
	for _, sectors := range append(sizes(), api.MaxSectors) {
		d, want := mustSlab(t, sectors), mustSlab(t, sectors)
		if got, told := store.Format(d), carryOut(want, wantFormat(sectors)); got != api.OK || told != api.OK {
			t.Errorf("%d sectors: errors %d and %d", sectors, got, told)
		}
		checkSlabs(t, d, want)
		checkFound(t, d, nil, 0)
		if d.Strokes() != 8 {
			t.Errorf("%d strokes", d.Strokes())
		}
	}
}

// The bytes as they stand, told by hand.
func TestFormatsBytes(t *testing.T) {
	d := formatted(t, 4)
	sum := "\xe3\xb0\xc4\x42\x98\xfc\x1c\x14\x9a\xfb\xf4\xc8\x99\x6f\xb9\x24\x27\xae\x41\xe4\x64\x9b\x93\x4c\xa4\x95\x99\x1b\x78\x52\xb8\x55"
	for n, want := range []string{"SACR", "", "\x00\x00\x00\x00\x00\x00\x00\x00\x00\x00\x00\x00" + sum, ""} {
		if b, errno := d.Face(n); errno != api.OK || !bytes.Equal(b, sector([]byte(want))) {
			t.Errorf("sector %d shows %x, error %d", n, b, errno)
		}
	}
}

// A slab that had states: what Format doesn't write stays, but there is nothing of it any more.
func TestFormatOfAnotherOnesSlab(t *testing.T) {
	random := rand.New(rand.NewSource(1))
	for _, sectors := range sizes() {
		d := mustSlab(t, sectors)
		for n := range sectors {
			mustInk(t, d, n, drawn(64, random))
		}
		mustBurn(t, d)
		s, _ := mustOpen(t, formattedAgain(t, d))
		for i := range 5 {
			mustSave(t, s, full(byte(i), roomOf(sectors)))
		}
		checkFound(t, formattedAgain(t, d), nil, 0)
	}
}

func formattedAgain(t *testing.T, d *slab.Slab) *slab.Slab {
	t.Helper()
	want := d.Twin()
	if got, told := store.Format(d), carryOut(want, wantFormat(d.Sectors())); got != api.OK || told != api.OK {
		t.Fatalf("errors %d and %d", got, told)
	}
	checkSlabs(t, d, want)
	return d
}

// A state that stood in the area of odd numbers doesn't come back by what is saved later.
func TestFormatLowersBothFlags(t *testing.T) {
	for _, number := range []uint64{1, 7, math.MaxUint64} {
		d := with(t, 6, number, []byte("old"))
		checkFound(t, d, []byte("old"), number)
		formattedAgain(t, d)
		checkFound(t, d, nil, 0)
	}
}

func TestFormatWithoutPower(t *testing.T) {
	for supply := range 12 {
		d := mustSlab(t, 6)
		mustInk(t, d, 0, full(9, 64))
		mustInk(t, d, 2, full(9, 64))
		mustBurn(t, d)
		d.Supply(supply)
		want := d.Twin()
		got, told := store.Format(d), carryOut(want, wantFormat(6))
		if got != told || (got == api.OK) != (supply >= 8) || got != api.OK && got != api.ErrDead {
			t.Errorf("supply %d: error %d, and not %d", supply, got, told)
		}
		checkSlabs(t, d, want)
	}
}

// Ink that somebody else left is burnt, too, as a Burn burns all.
func TestFormatWithInk(t *testing.T) {
	d := mustSlab(t, 8)
	for _, n := range []int{0, 2, 5, 7} {
		mustInk(t, d, n, full(byte(n+1), 64))
	}
	formattedAgain(t, d)
	checkFound(t, d, nil, 0)
}

func TestNoSlab(t *testing.T) {
	if errno := store.Format(nil); errno != api.ErrArg {
		t.Errorf("Format: error %d", errno)
	}
	checkNothing(t, nil, api.ErrArg)
}

func TestSlabThatIsOut(t *testing.T) {
	for _, d := range []*slab.Slab{mustSlab(t, 6), formatted(t, 6), with(t, 6, 3, []byte("three"))} {
		d.Supply(0)
		checkNothing(t, d, api.ErrDead)
		if errno := store.Format(d); errno != api.ErrDead {
			t.Errorf("Format: error %d", errno)
		}
		checkNothing(t, d, api.ErrDead)
	}
}

func TestOpenOfNothing(t *testing.T) {
	random := rand.New(rand.NewSource(2))
	for _, sectors := range sizes() {
		d := mustSlab(t, sectors)
		checkNothing(t, d, api.ErrNone)
		// With flags that are up, too: noughts are no state, for their sum isn't noughts.
		mustInk(t, d, 0, up())
		mustInk(t, d, 1, up())
		checkNothing(t, d, api.ErrNone)
		for n := range sectors {
			mustInk(t, d, n, drawn(64, random))
		}
		checkNothing(t, d, api.ErrNone)
		if d.Strokes() != 2+sectors {
			t.Errorf("%d strokes", d.Strokes())
		}
	}
}

// Opening takes no power, and nothing of the slab is another one behind it.
func TestOpenChangesNothing(t *testing.T) {
	d := with(t, 7, 4, full(5, 70))
	mustInk(t, d, 6, full(1, 64))
	d.Supply(3)
	want := d.Twin()
	for range 10 {
		checkFound(t, d, full(5, 70), 4)
	}
	checkSlabs(t, d, want)
}

// What a slab shows is what is found, be it burnt or only inked.
func TestOpenOfInk(t *testing.T) {
	d := formatted(t, 4)
	mustInk(t, d, 3, sector(areaBytes(1, []byte("ink"))))
	mustInk(t, d, 1, up())
	checkFound(t, d, []byte("ink"), 1)
	d.Wake()
	checkFound(t, d, nil, 0)
}

func TestFlags(t *testing.T) {
	for number := range uint64(2) {
		for at := range api.SectorSize {
			for _, a := range []byte{1, 0x80, 'S', 0xff} {
				d := with(t, 4, number, []byte("it"))
				flag := noughts()
				flag[at] = a
				mustInk(t, d, flagOf(number), flag)
				checkFound(t, d, []byte("it"), number)
			}
		}
		d := with(t, 4, number, []byte("it"))
		mustInk(t, d, flagOf(number), noughts())
		checkNothing(t, d, api.ErrNone)
		// The other one's flag helps none.
		mustInk(t, d, 1-flagOf(number), up())
		checkNothing(t, d, api.ErrNone)
	}
}

// A number belongs to one area alone.
func TestNumbersArea(t *testing.T) {
	for _, sectors := range sizes() {
		for _, number := range []uint64{0, 1, 2, 3, 254, 255, 1<<32 - 1, 1 << 32, 1<<63 - 1, 1 << 63, math.MaxUint64 - 1, math.MaxUint64} {
			checkFound(t, with(t, sectors, number, []byte("state")), []byte("state"), number)
			area := areaBytes(number, []byte("state"))
			if sectors < 6 {
				area = areaBytes(number, nil)
			}
			d := written(t, sectors, areaInkings(sectors, number+1, area), inkings{{0, up()}, {1, up()}})
			checkNothing(t, d, api.ErrNone)
		}
	}
}

// Each bit of what stands ahead of the state counts, and each of the state; those behind it don't.
func TestEachBit(t *testing.T) {
	state := full(0xa5, 40)
	for number := range uint64(4) {
		for i := range 8 * 128 {
			area := append(areaBytes(number, state), full(3, 44)...)
			area[i/8] ^= 0x80 >> (i % 8)
			d := written(t, 6, areaInkings(6, number, area), inkings{{flagOf(number), up()}})
			switch {
			case i < 63:
				checkFound(t, d, state, number^1<<(63-i))
			case i < 8*(44+40):
				checkNothing(t, d, api.ErrNone)
			default:
				checkFound(t, d, state, number)
			}
		}
	}
}

func TestLengths(t *testing.T) {
	random := rand.New(rand.NewSource(3))
	for _, sectors := range sizes() {
		room := roomOf(sectors)
		for length := 0; length <= room; length += 1 + length/80 {
			state := drawn(length, random)
			checkFound(t, with(t, sectors, 5, state), state, 5)
		}
		state := drawn(room, random)
		checkFound(t, with(t, sectors, 6, state), state, 6)
	}
}

// An area that says that it has more bytes than go into it doesn't count, though the sum be that of bytes that stand behind it.
func TestLengthsThatDontGoIn(t *testing.T) {
	for _, sectors := range sizes() {
		room := roomOf(sectors)
		for _, more := range []int{1, 2, 20, 64} {
			// The area of even numbers has the other one behind it.
			area := areaBytes(2, full(8, room+more))
			l := areaInkings(sectors, 2, area)
			l = slices.DeleteFunc(l, func(a inking) bool { return a.sector >= sectors })
			checkNothing(t, written(t, sectors, l, inkings{{0, up()}}), api.ErrNone)
		}
		for _, length := range []uint32{uint32(room) + 1, 1 << 16, 1<<31 - 1, 1 << 31, 1<<32 - 44, 1<<32 - 1} {
			for number := range uint64(2) {
				area := areaBytes(number, full(8, room))
				binary.BigEndian.PutUint32(area[8:], length)
				d := written(t, sectors, areaInkings(sectors, number, area), inkings{{flagOf(number), up()}})
				checkNothing(t, d, api.ErrNone)
			}
		}
	}
}

// Of two that count the greater number's is there; and one that doesn't count has no number.
func TestBothAreas(t *testing.T) {
	numbers := []uint64{0, 1, 2, 3, 6, 7, 255, 256, 1<<32 - 1, 1 << 32, 1<<63 - 2, 1<<63 - 1, 1 << 63, 1<<63 + 1, math.MaxUint64 - 1, math.MaxUint64}
	for _, even := range numbers {
		for _, odd := range numbers {
			if even%2 != 0 || odd%2 != 1 {
				continue
			}
			one, other := wantSave(6, even, []byte("even"), true), wantSave(6, odd, []byte("odd"), true)
			want, number := "even", even
			if odd > even {
				want, number = "odd", odd
			}
			d := written(t, 6, slices.Concat(one, other)...)
			checkFound(t, d, []byte(want), number)
			mustInk(t, d, flagOf(even), noughts())
			checkFound(t, d, []byte("odd"), odd)
			mustInk(t, d, flagOf(even), up())
			mustInk(t, d, firstOf(6, odd), noughts())
			checkFound(t, d, []byte("even"), even)
		}
	}
}

func TestRoom(t *testing.T) {
	for _, c := range []struct{ sectors, room int }{
		{4, 20}, {5, 20}, {6, 84}, {7, 84}, {8, 148}, {9, 148}, {10, 212}, {2048, 65428}, {4095, 130900}, {4096, 130964},
	} {
		d := formatted(t, c.sectors)
		s, _ := mustOpen(t, d)
		d.Supply(0)
		if got := s.Room(); got != c.room {
			t.Errorf("%d sectors: room for %d, and not %d", c.sectors, got, c.room)
		}
	}
}

func TestNumber(t *testing.T) {
	d := formatted(t, 4)
	s, _ := mustOpen(t, d)
	for number := range uint64(300) {
		if got := s.Number(); got != number {
			t.Fatalf("number %d, and not %d", got, number)
		}
		checkFound(t, d, full(byte(number), int(number%21)), number)
		mustSave(t, s, full(byte(number+1), int((number+1)%21)))
	}
}

// Each state that Open tells is apart.
func TestStatesThatAreTold(t *testing.T) {
	state := full(6, 90)
	d := with(t, 8, 2, state)
	s, one := mustOpen(t, d)
	_, other := mustOpen(t, d)
	clear(one)
	one = append(one, 1, 2, 3)
	if !bytes.Equal(other, state) {
		t.Errorf("another answer is %x", other)
	}
	checkFound(t, d, state, 2)
	mustSave(t, s, full(7, 90))
	mustSave(t, s, full(8, 90))
	if !bytes.Equal(other, state) || !bytes.Equal(one[:90], make([]byte, 90)) {
		t.Errorf("answers are %x and %x", one, other)
	}
}
