// Package disk: sectors, and a power that fails: see DOC.md, chapter 1.
package disk

import "rookery/api"

// Disk is so many sectors.
type Disk struct {
	sectors [][api.SectorSize]byte
	on      bool
	armed   bool              // only while on: what puts the power off disarms too
	after   int               // while armed: raw writes that are still done whole
	torn    int               // while armed: bytes of the write behind them, 0 to SectorSize
	writes  int               // raw writes so far
	trace   [api.MaxTrace]int // a ring: raw write w, from 0 on, stands at w % MaxTrace
}

// New makes a disk of zeros.
func New(sectors int) (*Disk, api.Errno) {
	if sectors < 1 || sectors > api.MaxSectors {
		return nil, api.ErrArg
	}
	return &Disk{sectors: make([][api.SectorSize]byte, sectors), on: true}, api.OK
}

// From makes a disk of these bytes.
func From(image []byte) (*Disk, api.Errno) {
	if len(image)%api.SectorSize != 0 {
		return nil, api.ErrArg
	}
	d, err := New(len(image) / api.SectorSize)
	if err != api.OK {
		return nil, err
	}
	for i := range d.sectors {
		copy(d.sectors[i][:], image[i*api.SectorSize:])
	}
	return d, api.OK
}

// Sectors tells how many there are.
func (d *Disk) Sectors() int { return len(d.sectors) }

// Read tells a sector's bytes.
func (d *Disk) Read(sector int) ([]byte, api.Errno) {
	if err := d.reach(sector); err != api.OK {
		return nil, err
	}
	b := make([]byte, api.SectorSize)
	copy(b, d.sectors[sector][:])
	return b, api.OK
}

// Write writes a sector.
func (d *Disk) Write(sector int, b []byte) api.Errno {
	if err := d.reach(sector); err != api.OK {
		return err
	}
	if len(b) != api.SectorSize {
		return api.ErrArg
	}
	d.note(sector)
	if d.armed && d.after == 0 {
		copy(d.sectors[sector][:d.torn], b)
		d.Off()
		return api.ErrDown
	}
	if d.armed {
		d.after--
	}
	copy(d.sectors[sector][:], b)
	return api.OK
}

// Arm says when the power fails: behind so many more writes, of the next one the first bytes are written; after below 0: never.
func (d *Disk) Arm(after, torn int) {
	if !d.on {
		return
	}
	d.armed = after >= 0
	d.after = after
	d.torn = min(max(torn, 0), api.SectorSize)
}

// Off takes the power away.
func (d *Disk) Off() {
	d.on = false
	d.armed = false
}

// On gives it back.
func (d *Disk) On() { d.on = true }

// IsOn tells whether it is there.
func (d *Disk) IsOn() bool { return d.on }

// Writes tells how many writes were begun.
func (d *Disk) Writes() int { return d.writes }

// Trace tells the sectors of the last writes, the oldest first.
func (d *Disk) Trace() []int {
	kept := min(d.writes, api.MaxTrace)
	list := make([]int, kept)
	for i := range list {
		list[i] = d.trace[(d.writes-kept+i)%api.MaxTrace]
	}
	return list
}

// Image tells all bytes.
func (d *Disk) Image() []byte {
	image := make([]byte, len(d.sectors)*api.SectorSize)
	for i := range d.sectors {
		copy(image[i*api.SectorSize:], d.sectors[i][:])
	}
	return image
}

// reach tells why a sector can't be read or written: Read and Write ask it first, so their errors have one order.
func (d *Disk) reach(sector int) api.Errno {
	if !d.on {
		return api.ErrDown
	}
	if sector < 0 || sector >= len(d.sectors) {
		return api.ErrSector
	}
	return api.OK
}

// note counts a raw write ahead of its bytes, so that a torn one is among them.
func (d *Disk) note(sector int) {
	d.trace[d.writes%api.MaxTrace] = sector
	d.writes++
}
