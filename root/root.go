// Package root: how a page file lies on its disk (DOC.md, chapter 8): pagefile writes and reads it, fsck looks at it from outside.
package root

import (
	"bytes"

	"rookery/api"
)

const (
	Roots       = 2 // the sectors 0 and 1, written in turns
	SlotSectors = api.PageSize / api.SectorSize
	Slots       = 200 // twice the pages: there is a free one for each, however many there are
	firstSlot   = 8   // the sector at which the slots begin
)

// TopSeq is the greatest number of a commit.
const TopSeq = 1 << 62

// The bytes of a root.
const (
	mark     = 82
	seqAt    = 1
	slotsAt  = 9
	seqAgain = 504
	seqSize  = 8
)

// Root says which pages count. Its zero value is that of a sector of zeros.
type Root struct {
	Seq   int
	slots [api.Pages]byte // of each page its slot + 1; 0: there is no such page
}

// Has tells whether there is a page of this number, from 0 to 99.
func (r Root) Has(n int) bool { return r.slots[n] != 0 }

// Slot tells where a page stands that there is.
func (r Root) Slot(n int) int { return int(r.slots[n]) - 1 }

// FirstSector tells where a slot begins.
func FirstSector(slot int) int { return firstSlot + SlotSectors*slot }

// After tells the root behind a commit of changes that stand by rising pages. It deals no slot of r: its pages must last until the new root is whole.
func (r Root) After(changes []api.Change) Root {
	next := Root{Seq: r.Seq + 1, slots: r.slots}
	taken, _ := r.taken()
	slot := 0
	for _, c := range changes {
		next.slots[c.Page] = 0
		if len(c.Data) == 0 {
			continue
		}
		for taken[slot] {
			slot++
		}
		next.slots[c.Page] = byte(slot + 1)
		slot++
	}
	return next
}

// taken tells which slots are a page's, and whether they may be so: none that isn't there, none of two pages.
func (r Root) taken() ([Slots]bool, bool) {
	var taken [Slots]bool
	for _, s := range r.slots {
		if s == 0 {
			continue
		}
		if s > Slots || taken[s-1] {
			return [Slots]bool{}, false
		}
		taken[s-1] = true
	}
	return taken, true
}

// Sector tells a root as it stands on the disk.
func (r Root) Sector() []byte {
	b := make([]byte, api.SectorSize)
	b[0] = mark
	putSeq(b[seqAt:], r.Seq)
	copy(b[slotsAt:], r.slots[:])
	putSeq(b[seqAgain:], r.Seq)
	return b
}

// Counting tells the root that counts: of the good ones the one with the greater number; false, if none of the sectors is good.
func Counting(sectors [Roots][]byte) (Root, bool) {
	var best Root
	found := false
	for i, b := range sectors {
		if r, good := parse(b, i); good && r.Seq >= best.Seq {
			best, found = r, true
		}
	}
	return best, found
}

// parse tells what a sector says, and whether it is good there: just the bytes that a root of such a number and such slots has.
func parse(b []byte, sector int) (Root, bool) {
	if bytes.Equal(b, make([]byte, api.SectorSize)) {
		return Root{}, true
	}
	seq := getSeq(b[seqAt:])
	if seq < 1 || seq > TopSeq || seq%Roots != uint64(sector) {
		return Root{}, false
	}
	r := Root{Seq: int(seq)}
	copy(r.slots[:], b[slotsAt:])
	if _, right := r.taken(); !right || !bytes.Equal(b, r.Sector()) {
		return Root{}, false
	}
	return r, true
}

// putSeq writes a number, its lowest byte first.
func putSeq(b []byte, seq int) {
	for i := range seqSize {
		b[i] = byte(seq >> (8 * i))
	}
}

func getSeq(b []byte) uint64 {
	var seq uint64
	for i := range seqSize {
		seq |= uint64(b[i]) << (8 * i)
	}
	return seq
}
