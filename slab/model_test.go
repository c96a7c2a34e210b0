package slab_test

import (
	"math/rand"
	"slices"
	"testing"

	"sacristy/api"
	"sacristy/slab"
)

// sector: a second writing of the chapter's words, which keeps each sector's two faces beside each other.
type sector struct {
	burnt, ink string
	inked      bool
}

type model struct {
	sectors       []sector
	endless       bool
	left, strokes int
}

func newModel(sectors int) *model {
	m := &model{sectors: make([]sector, sectors), endless: true}
	for i := range m.sectors {
		m.sectors[i].burnt = string(noughts())
	}
	return m
}

func (m *model) out() bool { return !m.endless && m.left == 0 }

func (m *model) stroke() {
	m.strokes++
	m.left--
}

func (m *model) face(n int) (string, api.Errno) {
	if m.out() {
		return "", api.ErrDead
	}
	if n < 0 || n >= len(m.sectors) {
		return "", api.ErrRange
	}
	if m.sectors[n].inked {
		return m.sectors[n].ink, api.OK
	}
	return m.sectors[n].burnt, api.OK
}

func (m *model) inkIt(n int, b string) api.Errno {
	if _, errno := m.face(n); errno != api.OK {
		return errno
	}
	if len(b) != 64 {
		return api.ErrForm
	}
	m.stroke()
	m.sectors[n].ink, m.sectors[n].inked = b, true
	return api.OK
}

func (m *model) burn() api.Errno {
	if m.out() {
		return api.ErrDead
	}
	for i, a := range m.sectors {
		if !a.inked {
			continue
		}
		if m.out() {
			return api.ErrDead
		}
		m.stroke()
		m.sectors[i] = sector{burnt: a.ink}
	}
	return api.OK
}

func (m *model) supply(strokes int) {
	if !m.out() {
		m.endless, m.left = strokes < 0, strokes
	}
}

func (m *model) inked() []int {
	var list []int
	for i, a := range m.sectors {
		if a.inked {
			list = append(list, i)
		}
	}
	return list
}

func (m *model) wake(scars []slab.Scar) {
	for i, a := range m.sectors {
		after := a.burnt
		for _, scar := range scars {
			if a.inked && scar.Sector == i {
				after = (string(scar.Bytes) + string(noughts()))[:64]
			}
		}
		m.sectors[i] = sector{burnt: after}
	}
	m.endless = true
}

func (m *model) twin() *model {
	apart := *m
	apart.sectors = slices.Clone(m.sectors)
	return &apart
}

// checkSame: all that a slab shows is what the model says.
func checkSame(t *testing.T, s *slab.Slab, m *model) {
	t.Helper()
	if s.Sectors() != len(m.sectors) || s.Out() != m.out() || s.Strokes() != m.strokes || !slices.Equal(s.Inked(), m.inked()) {
		t.Fatalf("%d sectors, out %v, %d strokes, inked %v; and not %d, %v, %d, %v",
			s.Sectors(), s.Out(), s.Strokes(), s.Inked(), len(m.sectors), m.out(), m.strokes, m.inked())
	}
	for n := -1; n <= len(m.sectors); n++ {
		want, told := m.face(n)
		if got, errno := s.Face(n); errno != told || string(got) != want {
			t.Fatalf("sector %d shows %x, error %d; and not %x, %d", n, got, errno, want, told)
		}
	}
}

// someBytes: most often as many as a sector has.
func someBytes(random *rand.Rand) []byte {
	if random.Intn(4) > 0 {
		return drawn(64, random)
	}
	return drawn(random.Intn(130), random)
}

func someScars(sectors int, random *rand.Rand) []slab.Scar {
	scars := make([]slab.Scar, random.Intn(6))
	for i := range scars {
		scars[i] = slab.Scar{Sector: random.Intn(sectors+2) - 1, Bytes: drawn(random.Intn(130), random)}
	}
	return scars
}

// step: one thing done to both; they answer the same.
func step(t *testing.T, s *slab.Slab, m *model, random *rand.Rand) {
	t.Helper()
	var got, want api.Errno
	switch what := random.Intn(20); {
	case what < 10:
		n, b := random.Intn(len(m.sectors)+2)-1, someBytes(random)
		got, want = s.Ink(n, b), m.inkIt(n, string(b))
	case what < 14:
		got, want = s.Burn(), m.burn()
	case what < 17:
		strokes := random.Intn(14) - 2
		s.Supply(strokes)
		m.supply(strokes)
	case what < 18 || m.out():
		scars := someScars(len(m.sectors), random)
		s.Wake(scars...)
		m.wake(scars)
	}
	if got != want {
		t.Fatalf("error %d, and not %d", got, want)
	}
}

// P15.1 to P15.4: anything done, in any order, to a slab and at times to a twin of it.
func TestAnythingDone(t *testing.T) {
	for seed := range int64(300) {
		random := rand.New(rand.NewSource(seed))
		sectors := 4 + random.Intn(6)
		s, m := mustNew(t, sectors), newModel(sectors)
		for range 120 {
			if random.Intn(30) == 0 {
				old, oldModel := s, m
				s, m = s.Twin(), m.twin()
				defer checkSame(t, old, oldModel)
			}
			step(t, s, m, random)
			checkSame(t, s, m)
		}
	}
}

// A great slab: its last sectors are as its first ones.
func TestGreatSlab(t *testing.T) {
	random := rand.New(rand.NewSource(9))
	s, m := mustNew(t, api.MaxSectors), newModel(api.MaxSectors)
	for range 3 {
		for n := range api.MaxSectors {
			if b := drawn(64, random); random.Intn(3) > 0 && s.Ink(n, b) != m.inkIt(n, string(b)) {
				t.Fatalf("sector %d", n)
			}
		}
		checkSame(t, s, m)
		s.Supply(2000)
		m.supply(2000)
		if s.Burn() != api.ErrDead || m.burn() != api.ErrDead {
			t.Error("it burnt with too few strokes")
		}
		scars := make([]slab.Scar, 2*api.MaxSectors)
		for i := range scars {
			scars[i] = slab.Scar{Sector: random.Intn(api.MaxSectors), Bytes: drawn(random.Intn(70), random)}
		}
		s.Wake(scars...)
		m.wake(scars)
		checkSame(t, s, m)
	}
}

// What is handed out beside an error is nothing.
func TestNothingBesideErrors(t *testing.T) {
	s := mustNew(t, 4)
	mustInk(t, s, 1, full(3))
	for _, n := range beyond(4) {
		if b, _ := s.Face(n); b != nil {
			t.Errorf("sector %d: %x", n, b)
		}
	}
	s.Supply(0)
	if b, errno := s.Face(1); b != nil || errno != api.ErrDead {
		t.Errorf("%x, error %d", b, errno)
	}
}
