// Package disk is layer 1: see shared/doc/01-disk.md.
package disk

import (
	"slices"

	"trireme/api"
)

type sector [api.SectorSize]byte

// write is an open write: it may be lost, or torn, when the power ends.
type write struct {
	at   int
	data sector
}

// Disk is a stand-in disk.
type Disk struct {
	lasting []sector
	open    []write
	limited bool
	left    int // calls until the power ends, if it is limited
	down    bool
}

// New gives a Disk of empty sectors.
func New(sectors int) (*Disk, api.Errno) {
	if sectors < 1 || sectors > api.MaxSectors {
		return nil, api.ErrArg
	}
	d := &Disk{}
	for range sectors {
		d.lasting = append(d.lasting, sector{})
	}
	return d, api.OK
}

// Sectors tells how many sectors there are.
func (d *Disk) Sectors() int { return len(d.lasting) }

// Read gives a sector.
func (d *Disk) Read(i int) ([]byte, api.Errno) {
	if e := d.reach(i); e != api.OK {
		return nil, e
	}
	for w := range d.backwards {
		if w.at == i {
			return slices.Clone(w.data[:]), api.OK
		}
	}
	return slices.Clone(d.lasting[i][:]), api.OK
}

// Write changes a sector.
func (d *Disk) Write(i int, data []byte) api.Errno {
	if e := d.reach(i); e != api.OK {
		return e
	}
	if len(data) != api.SectorSize {
		return api.ErrArg
	}
	// The write that finds no power is open all the same: it may have begun.
	d.open = append(d.open, write{at: i, data: sector(data)})
	return d.spend()
}

// Flush makes all that was written last.
func (d *Disk) Flush() api.Errno {
	if d.down {
		return api.ErrDown
	}
	if e := d.spend(); e != api.OK {
		return e
	}
	for _, w := range d.open {
		d.lasting[w.at] = w.data
	}
	d.open = nil
	return api.OK
}

// Limit lets the power end behind so many calls.
func (d *Disk) Limit(calls int) {
	d.limited, d.left = calls >= 0, calls
}

// Crash gives the disk as it is when the power is back.
func (d *Disk) Crash(fates []int) *Disk {
	back := &Disk{lasting: slices.Clone(d.lasting)}
	for k, w := range d.open {
		if k < len(fates) {
			suffer(&back.lasting[w.at], w.data[:], fates[k])
		}
	}
	return back
}

// reach tells what is wrong with getting at a sector.
func (d *Disk) reach(i int) api.Errno {
	if d.down {
		return api.ErrDown
	}
	if i < 0 || i >= len(d.lasting) {
		return api.ErrRange
	}
	return api.OK
}

// spend uses up one call of the power; without any left the disk goes down.
func (d *Disk) spend() api.Errno {
	if !d.limited {
		return api.OK
	}
	if d.left == 0 {
		d.down = true
		return api.ErrDown
	}
	d.left--
	return api.OK
}

// backwards goes through the open writes, the newest one first.
func (d *Disk) backwards(yield func(*write) bool) {
	for k := len(d.open) - 1; k >= 0; k-- {
		if !yield(&d.open[k]) {
			return
		}
	}
}

// suffer lets an open write come into a sector as far as its fate tells.
func suffer(s *sector, data []byte, fate int) {
	n := remainder(fate>>2, api.SectorSize+1)
	switch fate & 3 {
	case 1:
		copy(s[:], data)
	case 2:
		copy(s[:n], data)
	case 3:
		copy(s[n:], data[n:])
	}
}

// remainder is never below 0, also of numbers that are.
func remainder(a, by int) int {
	return (a%by + by) % by
}
