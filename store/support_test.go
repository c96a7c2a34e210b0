package store_test

import (
	"bytes"
	"crypto/sha256"
	"encoding/binary"
	"math/rand"
	"slices"
	"testing"

	"sacristy/api"
	"sacristy/slab"
	"sacristy/store"
)

// The chapter's words a second time: what is inked in a Format or a Save, and between which of these the slab burns.

// inking: a sector, and what it is inked with.
type inking struct {
	sector int
	bytes  []byte
}

// inkings: those that are burnt at one go.
type inkings []inking

// sector: bytes with noughts behind them.
func sector(b []byte) []byte { return append(slices.Clone(b), noughts()...)[:api.SectorSize] }

func noughts() []byte { return make([]byte, api.SectorSize) }

func up() []byte { return sector([]byte("SACR")) }

// full: bytes that are all this one.
func full(b byte, count int) []byte { return bytes.Repeat([]byte{b}, count) }

// drawn: any bytes.
func drawn(count int, random *rand.Rand) []byte {
	b := make([]byte, count)
	random.Read(b)
	return b
}

// areaBytes: a state's, with its number.
func areaBytes(number uint64, state []byte) []byte {
	b := binary.BigEndian.AppendUint64(nil, number)
	b = binary.BigEndian.AppendUint32(b, uint32(len(state)))
	total := sha256.Sum256(state)
	return append(append(b, total[:]...), state...)
}

// areaSectors: of a slab of so many, how many each area has.
func areaSectors(sectors int) int { return (sectors - 2) / 2 }

// firstOf: the first sector of a number's area.
func firstOf(sectors int, number uint64) int {
	if number%2 == 0 {
		return 2
	}
	return 2 + areaSectors(sectors)
}

// flagOf: the sector of a number's flag.
func flagOf(number uint64) int { return int(number % 2) }

// roomOf: on a slab of so many sectors.
func roomOf(sectors int) int { return 64*areaSectors(sectors) - 44 }

// areaInkings: of an area with these bytes.
func areaInkings(sectors int, number uint64, area []byte) inkings {
	var l inkings
	for i := 0; 64*i < len(area); i++ {
		l = append(l, inking{firstOf(sectors, number) + i, sector(area[64*i:])})
	}
	return l
}

// wantFormat: what is inked when a slab is formatted.
func wantFormat(sectors int) []inkings {
	return []inkings{{{0, noughts()}, {1, noughts()}}, areaInkings(sectors, 0, areaBytes(0, nil)), {{0, up()}}}
}

// wantSave: what is inked when a state is saved with this number, with its flag down or not.
func wantSave(sectors int, number uint64, state []byte, down bool) []inkings {
	all := []inkings{areaInkings(sectors, number, areaBytes(number, state)), {{flagOf(number), up()}}}
	if !down {
		all = slices.Insert(all, 0, inkings{{flagOf(number), noughts()}})
	}
	return all
}

// strokesOf: how many these take, when nothing else is inked.
func strokesOf(all []inkings) int {
	count := 0
	for _, l := range all {
		count += 2 * len(l)
	}
	return count
}

// carryOut: the slab gets just these, by its own calls; its first error.
func carryOut(d *slab.Slab, all []inkings) api.Errno {
	for _, l := range all {
		for _, a := range l {
			if errno := d.Ink(a.sector, a.bytes); errno != api.OK {
				return errno
			}
		}
		if errno := d.Burn(); errno != api.OK {
			return errno
		}
	}
	return api.OK
}

// checkSlabs: they are the same, now and when they wake without a scar.
func checkSlabs(t *testing.T, got, want *slab.Slab) {
	t.Helper()
	if got.Out() != want.Out() || got.Strokes() != want.Strokes() || !slices.Equal(got.Inked(), want.Inked()) {
		t.Fatalf("out %v, %d strokes, inked %v; and not %v, %d, %v",
			got.Out(), got.Strokes(), got.Inked(), want.Out(), want.Strokes(), want.Inked())
	}
	got, want = got.Twin(), want.Twin()
	for range 2 {
		for n := range want.Sectors() {
			one, errno := got.Face(n)
			other, told := want.Face(n)
			if errno != told || !bytes.Equal(one, other) {
				t.Fatalf("sector %d shows %x, error %d; and not %x, %d", n, one, errno, other, told)
			}
		}
		got.Wake()
		want.Wake()
	}
}

func mustSlab(t *testing.T, sectors int) *slab.Slab {
	t.Helper()
	d := slab.New(sectors)
	if d == nil {
		t.Fatalf("no slab of %d sectors", sectors)
	}
	return d
}

func mustInk(t *testing.T, d *slab.Slab, n int, b []byte) {
	t.Helper()
	if errno := d.Ink(n, b); errno != api.OK {
		t.Fatalf("Ink of sector %d: error %d", n, errno)
	}
}

func mustBurn(t *testing.T, d *slab.Slab) {
	t.Helper()
	if errno := d.Burn(); errno != api.OK {
		t.Fatalf("Burn: error %d", errno)
	}
}

// formatted: a slab with the state without bytes.
func formatted(t *testing.T, sectors int) *slab.Slab {
	t.Helper()
	d := mustSlab(t, sectors)
	if errno := store.Format(d); errno != api.OK {
		t.Fatalf("Format: error %d", errno)
	}
	return d
}

func mustOpen(t *testing.T, d *slab.Slab) (*store.Store, []byte) {
	t.Helper()
	s, state, errno := store.Open(d)
	if errno != api.OK || s == nil {
		t.Fatalf("Open: %v, error %d", s, errno)
	}
	return s, state
}

func mustSave(t *testing.T, s *store.Store, state []byte) {
	t.Helper()
	if errno := s.Save(state); errno != api.OK {
		t.Fatalf("Save: error %d", errno)
	}
}

// checkFound: a slab has this state, with this number.
func checkFound(t *testing.T, d *slab.Slab, state []byte, number uint64) {
	t.Helper()
	s, got := mustOpen(t, d)
	if !bytes.Equal(got, state) || s.Number() != number {
		t.Errorf("%x with the number %d, and not %x with %d", got, s.Number(), state, number)
	}
}

// checkNothing: nothing is told beside an error.
func checkNothing(t *testing.T, d *slab.Slab, want api.Errno) {
	t.Helper()
	if s, state, errno := store.Open(d); s != nil || state != nil || errno != want {
		t.Errorf("%v, %x, error %d, and not %d", s, state, errno, want)
	}
}

// written: a slab on which these are burnt.
func written(t *testing.T, sectors int, all ...inkings) *slab.Slab {
	t.Helper()
	d := mustSlab(t, sectors)
	if errno := carryOut(d, all); errno != api.OK {
		t.Fatalf("error %d", errno)
	}
	return d
}

// with: a slab on which a state stands as if it were saved with this number, and the other flag is down.
func with(t *testing.T, sectors int, number uint64, state []byte) *slab.Slab {
	t.Helper()
	return written(t, sectors, wantSave(sectors, number, state, true)...)
}
