package pagefile

import (
	"bytes"
	"encoding/binary"
	"maps"
	"slices"

	"rookery/api"
	"rookery/page"
)

// plainDisk: a disk as one list of bytes.
type plainDisk struct {
	image       []byte
	on          bool
	after, torn int // after below 0: not armed
	trace       []int
}

func (d *plainDisk) write(sector int, b []byte) api.Errno {
	d.trace = append(d.trace, sector)
	if d.after == 0 {
		copy(sectorsOf(d.image, sector, 1), b[:d.torn])
		d.on, d.after = false, -1
		return api.ErrDown
	}
	d.after = max(d.after-1, -1)
	copy(sectorsOf(d.image, sector, 1), b)
	return api.OK
}

// plainFile: a page file as maps, written from the chapter alone.
type plainFile struct {
	disk *plainDisk
	content
	slots map[int]int
	dead  bool
}

// plainRoot: what a sector says, read by the table of P802; nil: it is not good.
func plainRoot(b []byte, sector int) *plainFile {
	f := &plainFile{content: content{pages: map[int]string{}}, slots: map[int]int{}}
	if bytes.Count(b, []byte{0}) == 512 {
		return f
	}
	seq := binary.LittleEndian.Uint64(b[1:])
	if b[0] != 82 || seq != binary.LittleEndian.Uint64(b[504:]) || seq == 0 || seq > 1<<62 || int(seq&1) != sector || bytes.Count(b[109:504], []byte{0}) != 395 {
		return nil
	}
	f.seq = int(seq)
	for n, s := range b[9:109] {
		if s > 200 || s > 0 && slices.Contains(slices.Collect(maps.Values(f.slots)), int(s)-1) {
			return nil
		}
		if s > 0 {
			f.slots[n] = int(s) - 1
		}
	}
	return f
}

func plainOpen(d *plainDisk) (*plainFile, api.Errno) {
	if !d.on {
		return nil, api.ErrDown
	}
	if len(d.image) < 512*808 {
		return nil, api.ErrRoot
	}
	f, other := plainRoot(sectorsOf(d.image, 0, 1), 0), plainRoot(sectorsOf(d.image, 1, 1), 1)
	if f == nil || other != nil && other.seq > f.seq {
		f = other
	}
	if f == nil {
		return nil, api.ErrRoot
	}
	for n, s := range f.slots {
		b := slices.Clone(sectorsOf(d.image, 8+4*s, 4))
		if _, _, err := page.Check(b); err != api.OK {
			return nil, api.ErrPage
		}
		f.pages[n] = string(b)
	}
	f.disk = d
	return f, api.OK
}

func (f *plainFile) refuses(l []api.Change) api.Errno {
	met := map[int]bool{}
	for _, c := range l {
		if c.Page < 0 || c.Page > 99 || met[c.Page] {
			return api.ErrArg
		}
		met[c.Page] = true
	}
	for _, c := range l {
		if _, _, err := page.Check(c.Data); len(c.Data) > 0 && err != api.OK {
			return api.ErrPage
		}
	}
	if len(l) > 0 && f.seq == 1<<62 {
		return api.ErrRoot
	}
	return api.OK
}

// deal: the slots behind the changes, page by page.
func (f *plainFile) deal(l []api.Change) map[int]int {
	used := slices.Collect(maps.Values(f.slots))
	next := maps.Clone(f.slots)
	for n := range 100 {
		for _, c := range l {
			if c.Page != n {
				continue
			}
			delete(next, n)
			if len(c.Data) > 0 {
				s := 0
				for slices.Contains(used, s) {
					s++
				}
				used = append(used, s)
				next[n] = s
			}
		}
	}
	return next
}

func (f *plainFile) die() api.Errno {
	*f = plainFile{disk: f.disk, dead: true}
	return api.ErrDown
}

func (f *plainFile) commit(l []api.Change) api.Errno {
	if f.dead || !f.disk.on {
		return f.die()
	}
	if err := f.refuses(l); err != api.OK || len(l) == 0 {
		return err
	}
	slots := f.deal(l)
	after := f.content.with(l...)
	for n := range 100 {
		if slots[n] == f.slots[n] && after.pages[n] == f.pages[n] {
			continue
		}
		for i := range 4 * min(len(after.pages[n]), 1) {
			if err := f.disk.write(8+4*slots[n]+i, []byte(after.pages[n])[512*i:512*(i+1)]); err != api.OK {
				return f.die()
			}
		}
	}
	if err := f.disk.write(after.seq%2, rootOf(uint64(after.seq), slots)); err != api.OK {
		return f.die()
	}
	f.content, f.slots = after, slots
	return api.OK
}
