package store

import (
	"slices"

	"sacristy/api"
	"sacristy/slab"
)

const (
	// halves: states are written to the one and the other by turns, so that the last one stays while the next one is written.
	halves = 2
	magic  = "SACR"
)

// step: one of those that come one behind the other, till the power goes.
type step func() api.Errno

// face: what a sector shows.
type face [api.SectorSize]byte

// half: the flag and the area of all states with even numbers, or with odd ones.
type half struct {
	disk                 *slab.Slab
	flag, first, sectors int
}

// halfOf: that of a number. (Of no slab it is of no use, but each call on it tells the slab's error.)
func halfOf(d *slab.Slab, number uint64) half {
	flag := int(number % halves)
	sectors := (d.Sectors() - halves) / halves
	return half{disk: d, flag: flag, first: halves + flag*sectors, sectors: sectors}
}

// room: how many bytes a state may have.
func (h half) room() int { return h.sectors*api.SectorSize - head }

// lower: the flag is inked as one that is down.
func (h half) lower() api.Errno { return h.ink(h.flag, nil) }

// raise: the flag is inked as one that is up.
func (h half) raise() api.Errno { return h.ink(h.flag, []byte(magic)) }

// writing: the step that inks as much of the area as a record needs.
func (h half) writing(r record) step {
	return func() api.Errno {
		sector := h.first
		for part := range slices.Chunk(r.bytes(), api.SectorSize) {
			if errno := h.ink(sector, part); errno != api.OK {
				return errno
			}
			sector++
		}
		return api.OK
	}
}

// ink: a sector gets bytes, and noughts behind them.
func (h half) ink(sector int, b []byte) api.Errno {
	var f face
	copy(f[:], b)
	return h.disk.Ink(sector, f[:])
}

// isDown: is the flag?
func (h half) isDown() (bool, api.Errno) {
	b, errno := h.disk.Face(h.flag)
	if errno != api.OK {
		return false, errno
	}
	return face(b) == face{}, api.OK
}

// read: the record in the area, and whether it counts.
func (h half) read() (record, bool, api.Errno) {
	down, errno := h.isDown()
	if errno != api.OK || down {
		return record{}, false, errno
	}
	area, errno := h.area()
	if errno != api.OK {
		return record{}, false, errno
	}
	r, whole := recordIn(area)
	if !whole || halfOf(h.disk, r.number) != h {
		return record{}, false, api.OK
	}
	return r, true, api.OK
}

// area: all that its sectors show.
func (h half) area() ([]byte, api.Errno) {
	var area []byte
	for i := range h.sectors {
		b, errno := h.disk.Face(h.first + i)
		if errno != api.OK {
			return nil, errno
		}
		area = append(area, b...)
	}
	return area, api.OK
}

// inOrder: the first step's error that there is, and none of those behind it is made.
func inOrder(steps ...step) api.Errno {
	for _, next := range steps {
		if errno := next(); errno != api.OK {
			return errno
		}
	}
	return api.OK
}
