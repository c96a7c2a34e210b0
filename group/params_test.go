package group

import (
	"testing"

	"sacristy/api"
	"sacristy/mod"
	"sacristy/nat"
)

// In the ring of a prime hardly any seed needs a second try. In that of 56052361, 211 times 421 times 631, one less
// than which makes each number 1 that has no divisor in common with it, hardly any number gives what is above 1.
func TestHowManyTries(t *testing.T) {
	p := Params{P: nat.New(56052361), Q: nat.New(1)}
	ring, _ := mod.New(p.P)
	for _, c := range []struct {
		seed  string
		want  uint64
		errno api.Errno
	}{
		{"235", 27893356, api.OK}, // the first one
		{"429", 27626442, api.OK}, // the last one but one
		{"452", 532565, api.OK},   // the last one
		{"3", 0, api.ErrNone},     // none of 256
	} {
		p.Seed = []byte(c.seed)
		base, errno := p.secondBase(ring)
		if errno != c.errno || base.Cmp(nat.New(c.want)) != 0 {
			t.Errorf("seed %s: %x, error %d", c.seed, base.Least(), errno)
		}
	}
}

// Each number, 606 times, is 1 in the ring of 607, or 0.
func TestNoSecondBase(t *testing.T) {
	ring, _ := mod.New(nat.New(607))
	for _, seed := range []string{"", "a", "seed"} {
		base, errno := Params{P: nat.New(607), Q: nat.New(1), Seed: []byte(seed)}.secondBase(ring)
		if errno != api.ErrNone || !base.Zero() {
			t.Errorf("seed %q: %x, error %d", seed, base.Least(), errno)
		}
	}
}
