package pagefile

import (
	"bytes"
	"encoding/binary"
	"slices"
	"strconv"
	"sync"
	"testing"

	"rookery/api"
	"rookery/disk"
	"rookery/page"
)

// keyPage: the page of a key, of 1 to 16 bytes, whose value is the same bytes.
func keyPage(key string) []byte {
	b, err := page.BuildKey([]api.Write{{Dot: api.Dot{Node: 2, Count: 9}, Key: key, Value: []byte(key)}})
	if err != api.OK {
		panic("no key: " + key)
	}
	return b
}

// numbered: a page of a key that is named by a number.
func numbered(n int) []byte { return keyPage("key " + strconv.Itoa(n)) }

// wide: a page that has something in each of its four sectors.
func wide(gen int) []byte {
	var l []api.Clock
	for i := range api.MaxRanges {
		var set []api.Span
		for node := range api.MaxNodes {
			set = append(set, api.Span{Node: node, Base: 0x070503 + i + node, Bits: 0x0102030405060708 << 1})
		}
		l = append(l, api.Clock{Range: i, Set: set})
	}
	b, err := page.BuildClocks(gen, l)
	if err != api.OK {
		panic("no clocks")
	}
	return b
}

func hintPage(owner int) []byte {
	b, err := page.BuildHint(api.Hint{Owner: owner, Write: api.Write{Dot: api.Dot{Count: 1}, Key: "h"}})
	if err != api.OK {
		panic("no hint")
	}
	return b
}

// put: a change; without bytes the page goes.
func put(n int, b []byte) api.Change { return api.Change{Page: n, Data: b} }

func changes(l ...api.Change) []api.Change { return l }

func newDisk(t *testing.T, sectors int) *disk.Disk {
	t.Helper()
	d, err := disk.New(sectors)
	if err != api.OK {
		t.Fatalf("a disk of %d sectors: %d", sectors, err)
	}
	return d
}

func diskOf(t *testing.T, image []byte) *disk.Disk {
	t.Helper()
	d, err := disk.From(image)
	if err != api.OK {
		t.Fatalf("a disk of %d bytes: %d", len(image), err)
	}
	return d
}

func opened(t *testing.T, d *disk.Disk) *File {
	t.Helper()
	f, err := Open(d)
	if f == nil || err != api.OK {
		t.Fatalf("Open: %v, %d; want a file", f != nil, err)
	}
	return f
}

func wantRefused(t *testing.T, what string, d *disk.Disk, want api.Errno) {
	t.Helper()
	if f, err := Open(d); f != nil || err != want {
		t.Errorf("Open, %s: %v, %d; want nil, %d", what, f != nil, err, want)
	}
}

func wantErr(t *testing.T, what string, got, want api.Errno) {
	t.Helper()
	if got != want {
		t.Errorf("%s: %d; want %d", what, got, want)
	}
}

func wantOK(t *testing.T, f *File, l ...api.Change) {
	t.Helper()
	if err := f.Commit(l); err != api.OK {
		t.Fatalf("Commit of %d changes: %d; want OK", len(l), err)
	}
}

// content: what a file tells.
type content struct {
	seq   int
	pages map[int]string
}

// with: the content behind a commit of these changes.
func (c content) with(l ...api.Change) content {
	next := content{seq: c.seq + 1, pages: map[int]string{}}
	for n, b := range c.pages {
		next.pages[n] = b
	}
	for _, x := range l {
		delete(next.pages, x.Page)
		if len(x.Data) > 0 {
			next.pages[x.Page] = string(x.Data)
		}
	}
	return next
}

// tells: whether a file tells this, by all its calls.
func (c content) tells(f *File) bool {
	var numbers []int
	for n := -1; n <= api.Pages; n++ {
		b, ok := f.Page(n)
		want, there := c.pages[n]
		if ok != there || string(b) != want || !ok && b != nil {
			return false
		}
		if there {
			numbers = append(numbers, n)
		}
	}
	return f.Seq() == c.seq && slices.Equal(f.Pages(), numbers)
}

func wantContent(t *testing.T, what string, f *File, c content) {
	t.Helper()
	if f.Dead() || !c.tells(f) {
		t.Errorf("%s: dead %v, Seq %d, Pages %v; want Seq %d and %d pages, or other bytes", what, f.Dead(), f.Seq(), f.Pages(), c.seq, len(c.pages))
	}
}

// wantDead: a dead file tells nothing, and does nothing.
func wantDead(t *testing.T, what string, f *File, d *disk.Disk) {
	t.Helper()
	if !f.Dead() || !(content{}).tells(f) {
		t.Errorf("%s: dead %v, Seq %d, Pages %v; want true, 0, none", what, f.Dead(), f.Seq(), f.Pages())
	}
	writes := d.Writes()
	for _, l := range [][]api.Change{nil, changes(put(1, numbered(1))), changes(put(100, nil))} {
		wantErr(t, what+": Commit of a dead file", f.Commit(l), api.ErrDown)
	}
	if d.Writes() != writes {
		t.Errorf("%s: a dead file has written", what)
	}
}

// wantWrote: so many raw writes in all, the last ones to these sectors.
func wantWrote(t *testing.T, what string, d *disk.Disk, writes int, last ...int) {
	t.Helper()
	trace := d.Trace()
	if len(trace) > len(last) {
		trace = trace[len(trace)-len(last):]
	}
	if d.Writes() != writes || !slices.Equal(trace, last) {
		t.Errorf("%s: %d raw writes, the last ones %v; want %d, %v", what, d.Writes(), trace, writes, last)
	}
}

// rootOf: the bytes of a root: of pages and their slots, as the table of P802 has them.
func rootOf(seq uint64, slots map[int]int) []byte {
	b := []byte{82}
	b = binary.LittleEndian.AppendUint64(b, seq)
	for n := range 100 {
		s, ok := slots[n]
		if !ok {
			s = -1
		}
		b = append(b, byte(s+1))
	}
	b = append(b, make([]byte, 395)...)
	return binary.LittleEndian.AppendUint64(b, seq)
}

// sectorsOf: bytes of an image.
func sectorsOf(image []byte, first, n int) []byte { return image[512*first : 512*(first+n)] }

// fullSlots: a page in every slot, numbered by it.
var fullSlots = sync.OnceValue(func() []byte {
	var b []byte
	for s := range 200 {
		b = append(b, numbered(s)...)
	}
	return b
})

// fullImage: a disk with these roots and a page in every slot.
func fullImage(zero, one []byte) []byte {
	return slices.Concat(zero, one, make([]byte, 512*6), fullSlots())
}

// torn: a sector that is no root.
func torn() []byte { return bytes.Repeat([]byte{7}, 512) }

func zeros() []byte { return make([]byte, 512) }

// edited: the bytes with one of them changed.
func edited(b []byte, at int, c byte) []byte {
	b = slices.Clone(b)
	b[at] = c
	return b
}
