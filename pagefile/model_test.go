package pagefile

import (
	"bytes"
	"math/rand"
	"slices"
	"testing"

	"rookery/api"
	"rookery/disk"
)

// pair: a disk and a file, real and plain.
type pair struct {
	disk  *disk.Disk
	plain *plainDisk
	f     *File
	p     *plainFile
}

func newPair(t *testing.T, image []byte) *pair {
	t.Helper()
	return &pair{disk: diskOf(t, image), plain: &plainDisk{image: slices.Clone(image), on: true, after: -1}}
}

// open opens both; if they are refused, the file stays the one from ahead.
func (x *pair) open(t *testing.T) {
	t.Helper()
	f, err := Open(x.disk)
	p, want := plainOpen(x.plain)
	if err != want || (f == nil) != (p == nil) {
		t.Fatalf("Open: %v, %d; want %v, %d", f != nil, err, p != nil, want)
	}
	if f != nil {
		x.f, x.p = f, p
	}
}

func (x *pair) commit(t *testing.T, l []api.Change) {
	t.Helper()
	if x.f == nil {
		return
	}
	if err, want := x.f.Commit(l), x.p.commit(l); err != want {
		t.Fatalf("Commit of %d changes: %d; want %d", len(l), err, want)
	}
}

// compare: both disks and both files are alike.
func (x *pair) compare(t *testing.T) {
	t.Helper()
	trace := x.plain.trace[max(0, len(x.plain.trace)-64):]
	if x.disk.IsOn() != x.plain.on || x.disk.Writes() != len(x.plain.trace) || !slices.Equal(x.disk.Trace(), trace) {
		t.Fatalf("the disk: on %v, %d raw writes, %v; want %v, %d, %v", x.disk.IsOn(), x.disk.Writes(), x.disk.Trace(), x.plain.on, len(x.plain.trace), trace)
	}
	if !bytes.Equal(x.disk.Image(), x.plain.image) {
		t.Fatal("the disk has other bytes")
	}
	if x.f != nil && (x.f.Dead() != x.p.dead || !x.p.tells(x.f)) {
		t.Fatalf("the file: dead %v, Seq %d, Pages %v; want %v, %d, %d pages", x.f.Dead(), x.f.Seq(), x.f.Pages(), x.p.dead, x.p.seq, len(x.p.pages))
	}
}

func (x *pair) arm(after, torn int) {
	x.disk.Arm(after, torn)
	if x.plain.on {
		x.plain.after, x.plain.torn = after, torn
	}
}

func (x *pair) power(on bool) {
	if on {
		x.disk.On()
		x.plain.on = true
		return
	}
	x.disk.Off()
	x.plain.on, x.plain.after = false, -1
}

// spoil writes a sector past the file, on both disks.
func (x *pair) spoil(sector int, b []byte) {
	if !x.plain.on || x.plain.after >= 0 {
		return
	}
	x.disk.Write(sector, b)
	x.plain.write(sector, b)
}

// anyChanges: changes that may be wrong.
func anyChanges(r *rand.Rand) []api.Change {
	l := randomChanges(r, []int{1, 3, 9, 100}[r.Intn(4)])
	if len(l) == 0 || r.Intn(4) > 0 {
		return l
	}
	c := l[r.Intn(len(l))]
	switch r.Intn(5) {
	case 0:
		c.Page = []int{-1, 100, 101, 255, 256, -1 << 63, 1<<63 - 1}[r.Intn(7)]
	case 1:
		c.Data = []byte{1}
	case 2:
		c.Page, c.Data = r.Intn(100), make([]byte, 2048)
	case 3:
		c.Data = edited(numbered(3), r.Intn(2048), byte(r.Intn(256)))
	}
	return slices.Insert(l, r.Intn(len(l)+1), c)
}

// anySector: a root of some sort, or a part of a page, as it might be found on a disk.
func anySector(r *rand.Rand) (int, []byte) {
	if r.Intn(3) == 0 {
		return 8 + r.Intn(24), [][]byte{zeros(), torn(), numbered(r.Intn(9))[:512]}[r.Intn(3)]
	}
	slots := map[int]int{}
	for range r.Intn(4) {
		slots[r.Intn(100)] = r.Intn(4)
	}
	seq := []uint64{uint64(r.Intn(9)), 1<<62 - uint64(r.Intn(3)), 1<<62 + uint64(r.Intn(3)), r.Uint64()}[r.Intn(4)]
	b := rootOf(seq, slots)
	if r.Intn(4) == 0 {
		b[r.Intn(512)] ^= 1 << r.Intn(8)
	}
	if r.Intn(8) == 0 {
		b = zeros()
	}
	return r.Intn(2), b
}

// TestAgainstModel: P801 to P808, random calls against a plain disk and a plain file.
func TestAgainstModel(t *testing.T) {
	for seed := range int64(60) {
		r := rand.New(rand.NewSource(seed))
		x := newPair(t, make([]byte, 512*(808+r.Intn(3))))
		x.open(t)
		for range 40 {
			switch r.Intn(12) {
			case 0, 1:
				x.arm(r.Intn(12)-1, tears()[r.Intn(len(tears()))])
			case 2:
				x.power(r.Intn(4) > 0)
			case 3, 4:
				x.power(true)
				x.open(t)
			case 5:
				x.open(t)
			default:
				x.commit(t, anyChanges(r))
			}
			x.compare(t)
		}
	}
}

// TestModelSpoilt: disks whose sectors were written by others.
func TestModelSpoilt(t *testing.T) {
	for seed := range int64(300) {
		r := rand.New(rand.NewSource(seed))
		image := fullImage(zeros(), zeros())
		if r.Intn(20) == 0 {
			image = image[:512*(1+r.Intn(807))]
		}
		x := newPair(t, image)
		for range 30 {
			if sector, b := anySector(r); r.Intn(2) == 0 && sector < len(image)/512 {
				x.spoil(sector, b)
			}
			x.open(t)
			if r.Intn(3) == 0 {
				x.commit(t, randomChanges(r, 3))
			}
		}
		x.compare(t)
	}
}
