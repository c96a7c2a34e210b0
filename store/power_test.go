package store_test

import (
	"bytes"
	"math/rand"
	"slices"
	"testing"

	"sacristy/api"
	"sacristy/slab"
	"sacristy/store"
)

// P16.3

// stand: a state with its number.
type stand struct {
	number uint64
	state  []byte
}

func found(t *testing.T, d *slab.Slab) stand {
	t.Helper()
	s, state := mustOpen(t, d)
	return stand{s.Number(), state}
}

func (a stand) is(b stand) bool { return a.number == b.number && bytes.Equal(a.state, b.state) }

// next: a state that comes behind this one; which tells it from others of the same number.
func (a stand) next(length int, which byte) stand {
	return stand{a.number + 1, full(which, length)}
}

// scarBytes: what a sector may have that was inked with these when the power went; evil ones among them, an area's beginning that says, with a right sum, that a far later state is there.
func scarBytes(n int, ink []byte, evil uint64, random *rand.Rand) [][]byte {
	flipped := slices.Clone(ink)
	flipped[random.Intn(64)] ^= 1 << random.Intn(8)
	half := append(slices.Clone(ink[:32]), full(0xee, 32)...)
	late := areaBytes(evil, []byte("evil"))
	return [][]byte{nil, up(), slices.Clone(ink), flipped, half, full(0xff, 64), {1}, append(make([]byte, 63), 1), drawn(64, random), late, areaBytes(evil+1, nil), []byte("SACR")[:n%5]}
}

// someScars: one way in which the inked sectors may be left: at 0 none has a scar; then come the plain ways, in which all have the same kind; behind those each has any.
func someScars(inked []int, want []inkings, which int, evil uint64, random *rand.Rand) []slab.Scar {
	var scars []slab.Scar
	for _, n := range inked {
		ways := scarBytes(n, lastInk(want, n), evil, random)
		way := which - 1
		if way >= len(ways) {
			way = random.Intn(len(ways)+1) - 1
		}
		if way >= 0 {
			scars = append(scars, slab.Scar{Sector: n, Bytes: ways[way]})
		}
	}
	return scars
}

// ways: how many of someScars are tried: none, the twelve plain ones, and a few drawn ones.
const ways = 1 + 12 + 5

// lastInk: what a sector had when it was last inked; a flag may have had noughts before, which are among the scars anyway.
func lastInk(want []inkings, n int) []byte {
	for _, l := range want {
		for _, a := range l {
			if a.sector == n && !bytes.Equal(a.bytes, noughts()) {
				return a.bytes
			}
		}
	}
	return noughts()
}

// cut: a saving that the power's end came to; what is left of the slab.
func cut(t *testing.T, d *slab.Slab, next stand, supply, which int, random *rand.Rand) *slab.Slab {
	t.Helper()
	d = d.Twin()
	s, _ := mustOpen(t, d)
	d.Supply(supply)
	if errno := s.Save(next.state); errno != api.ErrDead {
		t.Fatalf("supply %d: error %d", supply, errno)
	}
	want := wantSave(d.Sectors(), next.number, next.state, false)
	d.Wake(someScars(d.Inked(), want, which, next.number+1000, random)...)
	return d
}

// strokesToSave: told by a twin.
func strokesToSave(t *testing.T, d *slab.Slab, state []byte) int {
	t.Helper()
	d = d.Twin()
	before := d.Strokes()
	s, _ := mustOpen(t, d)
	mustSave(t, s, state)
	return d.Strokes() - before
}

// checkCut: what is found is what was ahead, or what was being saved; it stays; and what comes next is saved whole.
func checkCut(t *testing.T, d *slab.Slab, ahead, next stand) stand {
	t.Helper()
	got := found(t, d)
	if !got.is(ahead) && !got.is(next) {
		t.Fatalf("found %v, and neither %v nor %v", got, ahead, next)
	}
	twin := d.Twin()
	for range 2 {
		twin.Wake(slab.Scar{Sector: 0, Bytes: up()}, slab.Scar{Sector: 1, Bytes: up()}, slab.Scar{Sector: 2, Bytes: nil})
		if again := found(t, twin); !again.is(got) {
			t.Fatalf("found %v, and then %v", got, again)
		}
	}
	s, _ := mustOpen(t, twin)
	behind := got.next(roomOf(d.Sectors()), 'z')
	mustSave(t, s, behind.state)
	if last := found(t, twin); !last.is(behind) {
		t.Fatalf("found %v, and not %v", last, behind)
	}
	return got
}

// Wherever the power goes, thrice one behind the other, with each plain way of scars.
func TestEachCut(t *testing.T) {
	random := rand.New(rand.NewSource(5))
	for _, sectors := range []int{4, 7} {
		for saved := range 4 {
			d := formatted(t, sectors)
			s, _ := mustOpen(t, d)
			for i := range saved {
				mustSave(t, s, full(byte(i+1), 15+i))
			}
			checkEachCut(t, d, 3, random)
		}
	}
}

func checkEachCut(t *testing.T, d *slab.Slab, times int, random *rand.Rand) {
	t.Helper()
	ahead := found(t, d)
	next := ahead.next(min(roomOf(d.Sectors()), 10+50*times), byte('a'+times))
	for supply := range strokesToSave(t, d, next.state) {
		for which := range ways {
			// All ways of three cuts are too many: behind the first one some are drawn.
			if times < 3 && random.Intn(8) > 0 {
				continue
			}
			after := cut(t, d, next, supply, which, random)
			checkCut(t, after, ahead, next)
			if times > 1 {
				checkEachCut(t, after, times-1, random)
			}
		}
	}
}

// A flag that went up by a scar makes what was being saved be there; one that didn't makes it never be there.
func TestTheFlagsScarDecides(t *testing.T) {
	for _, c := range []struct {
		scars []slab.Scar
		saved bool
	}{
		{nil, false},
		{[]slab.Scar{{Sector: 1}}, false},
		{[]slab.Scar{{Sector: 1, Bytes: make([]byte, 200)}}, false},
		{[]slab.Scar{{Sector: 0, Bytes: up()}, {Sector: 3, Bytes: full(1, 64)}}, false},
		{[]slab.Scar{{Sector: 1, Bytes: []byte("SACR")}}, true},
		{[]slab.Scar{{Sector: 1, Bytes: []byte("no flag")}}, true},
		{[]slab.Scar{{Sector: 1, Bytes: append(make([]byte, 63), 1)}}, true},
	} {
		d := formatted(t, 4)
		s, _ := mustOpen(t, d)
		d.Supply(3)
		if errno := s.Save([]byte("one")); errno != api.ErrDead {
			t.Errorf("error %d", errno)
		}
		d.Wake(c.scars...)
		if c.saved {
			checkFound(t, d, []byte("one"), 1)
		} else {
			checkFound(t, d, nil, 0)
		}
	}
}

// While an area is written to, no scar makes it count: its flag is down, and that lasts.
func TestScarsOfAreas(t *testing.T) {
	evil := stand{9, []byte("evil")}
	area := areaBytes(evil.number, evil.state)
	for _, saved := range []int{0, 2} {
		d := formatted(t, 6)
		s, _ := mustOpen(t, d)
		for i := range saved {
			mustSave(t, s, []byte{byte(i)})
		}
		ahead := found(t, d)
		state := full(1, 84)
		for supply := range strokesToSave(t, d, state) - 2 {
			twin := d.Twin()
			s, _ := mustOpen(t, twin)
			twin.Supply(supply)
			if errno := s.Save(state); errno != api.ErrDead {
				t.Fatalf("error %d", errno)
			}
			first := firstOf(6, ahead.number+1)
			twin.Wake(slab.Scar{Sector: first, Bytes: area}, slab.Scar{Sector: first + 1, Bytes: up()})
			if got := found(t, twin); !got.is(ahead) {
				t.Errorf("supply %d: found %v, and not %v", supply, got, ahead)
			}
		}
	}
}

// A slab that loses its power over and over: what is there is always the last one that was found, or the one that was being saved then.
func TestAnyLife(t *testing.T) {
	for seed := range int64(200) {
		random := rand.New(rand.NewSource(seed))
		sectors := 4 + random.Intn(9)
		d := formatted(t, sectors)
		there := found(t, d)
		s, _ := mustOpen(t, d)
		for i := range 60 {
			next := stand{there.number + 1, drawn(random.Intn(roomOf(sectors)+1), random)}
			switch random.Intn(5) {
			case 0:
				mustSave(t, s, next.state)
				there = next
			case 1:
				d.Wake(slab.Scar{Sector: random.Intn(sectors), Bytes: drawn(64, random)})
			default:
				d.Supply(random.Intn(2*areaSectors(sectors) + 5))
				there = checkTried(t, d, s, there, next, i, random)
				s, _ = mustOpen(t, d)
			}
			if got := found(t, d); !got.is(there) {
				t.Fatalf("found %v, and not %v", got, there)
			}
		}
	}
}

// checkTried: a saving that may come to its end or not, and the slab awake behind it; what is there then.
func checkTried(t *testing.T, d *slab.Slab, s *store.Store, there, next stand, which int, random *rand.Rand) stand {
	t.Helper()
	errno := s.Save(next.state)
	want := wantSave(d.Sectors(), next.number, next.state, false)
	d.Wake(someScars(d.Inked(), want, which%ways, next.number+1000, random)...)
	if errno == api.OK {
		return next
	}
	if errno != api.ErrDead {
		t.Fatalf("error %d", errno)
	}
	return checkCut(t, d, there, next)
}
