package slab

import "maps"

// Scar is what a sector has when the power went while it was inked.
type Scar struct {
	Sector int
	Bytes  []byte
}

// Supply: so many strokes from now on.
func (s *Slab) Supply(strokes int) {
	// Only waking helps a slab that is out.
	if s == nil || s.Out() {
		return
	}
	s.supply = max(strokes, endless)
}

// Out: is there no stroke left?
func (s *Slab) Out() bool { return s != nil && s.supply == 0 }

// Strokes: how many were ever made.
func (s *Slab) Strokes() int {
	if s == nil {
		return 0
	}
	return s.strokes
}

// Wake: the power is there again.
func (s *Slab) Wake(scars ...Scar) {
	if s == nil {
		return
	}
	last := lastOfEach(scars)
	for n := range maps.Keys(last) {
		if _, inked := s.ink[n]; inked {
			s.burnt[n] = last[n].face()
		}
	}
	clear(s.ink)
	s.supply = endless
}

// stroke: one is made; whoever makes it has asked whether the slab is out.
func (s *Slab) stroke() {
	s.strokes++
	if s.supply != endless {
		s.supply--
	}
}

// lastOfEach: by sectors, the scar that counts.
func lastOfEach(scars []Scar) map[int]Scar {
	last := map[int]Scar{}
	for _, scar := range scars {
		last[scar.Sector] = scar
	}
	return last
}

// face: noughts are behind bytes that are too few.
func (a Scar) face() face {
	var f face
	copy(f[:], a.Bytes)
	return f
}
