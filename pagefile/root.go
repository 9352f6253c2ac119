package pagefile

import (
	"bytes"

	"rookery/api"
	"rookery/disk"
)

const (
	roots       = 2 // the sectors 0 and 1, written in turns
	firstSlot   = 8 // the sector at which the slots begin
	slotSectors = api.PageSize / api.SectorSize
	slots       = 200 // twice the pages: there is a free one for each, however many there are
)

// The bytes of a root.
const (
	mark     = 82
	seqAt    = 1
	slotsAt  = 9
	seqAgain = 504
	seqSize  = 8
)

// topSeq is the greatest number of a commit.
const topSeq = 1 << 62

// root says which pages count. Its zero value is that of a sector of zeros.
type root struct {
	seq   int
	slots [api.Pages]byte // of each page its slot + 1; 0: there is no such page
}

func (r root) has(n int) bool { return r.slots[n] != 0 }

// firstSector tells where the slot of a page begins.
func (r root) firstSector(n int) int { return firstSlot + slotSectors*(int(r.slots[n])-1) }

// after tells the root behind a commit of changes that stand by rising pages. It deals no slot of r: its pages must last until the new root is whole.
func (r root) after(changes []api.Change) root {
	next := root{seq: r.seq + 1, slots: r.slots}
	taken, _ := r.taken()
	slot := 0
	for _, c := range changes {
		next.slots[c.Page] = 0
		if len(c.Data) == 0 {
			continue
		}
		for taken[slot] {
			slot++
		}
		next.slots[c.Page] = byte(slot + 1)
		slot++
	}
	return next
}

// taken tells which slots are a page's, and whether they may be so: none that isn't there, none of two pages.
func (r root) taken() ([slots]bool, bool) {
	var taken [slots]bool
	for _, s := range r.slots {
		if s == 0 {
			continue
		}
		if s > slots || taken[s-1] {
			return [slots]bool{}, false
		}
		taken[s-1] = true
	}
	return taken, true
}

// sector tells a root as it stands on the disk.
func (r root) sector() []byte {
	b := make([]byte, api.SectorSize)
	b[0] = mark
	putSeq(b[seqAt:], r.seq)
	copy(b[slotsAt:], r.slots[:])
	putSeq(b[seqAgain:], r.seq)
	return b
}

// readRoot tells the root that counts: of the good ones the one with the greater number.
func readRoot(d *disk.Disk) (root, api.Errno) {
	var best root
	found := false
	for i := range roots {
		b, err := d.Read(i)
		if err != api.OK {
			return root{}, err
		}
		if r, good := parseRoot(b, i); good && r.seq >= best.seq {
			best, found = r, true
		}
	}
	if !found {
		return root{}, api.ErrRoot
	}
	return best, api.OK
}

// parseRoot tells what a sector says, and whether it is good there: just the bytes that a root of such a number and such slots has.
func parseRoot(b []byte, sector int) (root, bool) {
	if bytes.Equal(b, make([]byte, api.SectorSize)) {
		return root{}, true
	}
	seq := getSeq(b[seqAt:])
	if seq < 1 || seq > topSeq || seq%roots != uint64(sector) {
		return root{}, false
	}
	r := root{seq: int(seq)}
	copy(r.slots[:], b[slotsAt:])
	if _, right := r.taken(); !right || !bytes.Equal(b, r.sector()) {
		return root{}, false
	}
	return r, true
}

// putSeq writes a number, its lowest byte first.
func putSeq(b []byte, seq int) {
	for i := range seqSize {
		b[i] = byte(seq >> (8 * i))
	}
}

func getSeq(b []byte) uint64 {
	var seq uint64
	for i := range seqSize {
		seq |= uint64(b[i]) << (8 * i)
	}
	return seq
}
