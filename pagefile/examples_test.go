package pagefile

import (
	"bytes"
	"slices"
	"testing"

	"rookery/api"
	"rookery/disk"
)

// TestExamplesCalls: the chapter's first table, row by row.
func TestExamplesCalls(t *testing.T) {
	k, l, c := keyPage("k"), keyPage("l"), wide(1)
	d := newDisk(t, 808)
	f := opened(t, d)
	wantContent(t, "row 1", f, content{})
	wantWrote(t, "row 1", d, 0)

	wantOK(t, f, put(1, k), put(0, c))
	wantWrote(t, "row 2", d, 9, 8, 9, 10, 11, 12, 13, 14, 15, 1)
	if image := d.Image(); !bytes.Equal(sectorsOf(image, 8, 4), c) || !bytes.Equal(sectorsOf(image, 12, 4), k) || !bytes.Equal(sectorsOf(image, 1, 1), rootOf(1, map[int]int{0: 0, 1: 1})) {
		t.Error("row 2: other bytes")
	}
	if !slices.Equal(f.Pages(), []int{0, 1}) || f.Seq() != 1 {
		t.Errorf("row 3: %v, %d", f.Pages(), f.Seq())
	}

	wantOK(t, f, put(1, l))
	wantWrote(t, "row 4", d, 14, 16, 17, 18, 19, 0)
	wantOK(t, f, put(1, k), put(70, nil))
	wantWrote(t, "row 5", d, 19, 12, 13, 14, 15, 1)
	wantOK(t, f, put(1, nil))
	wantWrote(t, "row 6", d, 20, 0)
	wantContent(t, "row 6", f, content{seq: 4, pages: map[int]string{0: string(c)}})
	wantOK(t, f)
	wantWrote(t, "row 7", d, 20)
	wantContent(t, "row 7", f, content{seq: 4, pages: map[int]string{0: string(c)}})

	image := d.Image()
	wantErr(t, "row 8", f.Commit(changes(put(100, k))), api.ErrArg)
	wantErr(t, "row 8", f.Commit(changes(put(1, k), put(1, l))), api.ErrArg)
	wantErr(t, "row 8", f.Commit(changes(put(1, k[:2047]))), api.ErrPage)
	wantErr(t, "row 8", f.Commit(changes(put(-1, k[:1]))), api.ErrArg)
	if !bytes.Equal(d.Image(), image) {
		t.Error("row 8: something has changed")
	}
	wantContent(t, "row 8", f, content{seq: 4, pages: map[int]string{0: string(c)}})

	d.Arm(4, 100)
	wantErr(t, "row 9", f.Commit(changes(put(2, k))), api.ErrDown)
	wantWrote(t, "row 9", d, 25, 12, 13, 14, 15, 1)
	torn := append(rootOf(5, map[int]int{0: 0, 2: 1})[:100], sectorsOf(image, 1, 1)[100:]...)
	if image := d.Image(); !bytes.Equal(sectorsOf(image, 12, 4), k) || !bytes.Equal(sectorsOf(image, 1, 1), torn) {
		t.Error("row 9: other bytes")
	}
	wantDead(t, "row 9", f, d)

	d.On()
	f = opened(t, d)
	wantContent(t, "row 10", f, content{seq: 4, pages: map[int]string{0: string(c)}})
	d.Arm(5, 0)
	wantOK(t, f, put(2, k))
	if !bytes.Equal(sectorsOf(d.Image(), 1, 1), rootOf(5, map[int]int{0: 0, 2: 1})) || !d.IsOn() {
		t.Error("row 11: the root is not whole")
	}
	wantContent(t, "row 11", f, content{seq: 5, pages: map[int]string{0: string(c), 2: string(k)}})
}

// TestExamplesImages: the chapter's second table.
func TestExamplesImages(t *testing.T) {
	good := rootOf(1, map[int]int{0: 0})
	small, _ := disk.New(807)
	wantRefused(t, "807 sectors", small, api.ErrRoot)
	wantRefused(t, "both roots torn", diskOf(t, fullImage(edited(rootOf(2, nil), 504, 0), edited(good, 504, 0))), api.ErrRoot)
	wantContent(t, "zeros, and a torn root", opened(t, diskOf(t, fullImage(zeros(), edited(good, 504, 0)))), content{})
	wantRefused(t, "the number 3 in sector 0", diskOf(t, fullImage(rootOf(3, nil), torn())), api.ErrRoot)
	wantRefused(t, "the newer root names a spoilt page", diskOf(t, spoiltAt(fullImage(rootOf(2, map[int]int{0: 7}), good), 7)), api.ErrPage)
}
