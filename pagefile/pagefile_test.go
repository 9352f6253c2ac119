package pagefile

import (
	"bytes"
	"math"
	"runtime"
	"slices"
	"testing"

	"rookery/api"
	"rookery/page"
)

// TestP801Slots: every slot is where the chapter says, and no other sector is written but the roots.
func TestP801Slots(t *testing.T) {
	if Sectors != 808 {
		t.Errorf("Sectors: %d", Sectors)
	}
	d := newDisk(t, 4096)
	for i := range 4096 {
		if i >= 2 && i <= 7 || i >= 808 {
			d.Write(i, bytes.Repeat([]byte{byte(i + i/256)}, 512))
		}
	}
	before := d.Image()
	f := opened(t, d)
	var first, second []api.Change
	for n := range 100 {
		first = append(first, put(n, wide(n)))
		second = append(second, put(n, wide(1000+n)))
	}
	wantOK(t, f, first...)
	wantOK(t, f, second...)
	image := d.Image()
	for n := range 100 {
		if !bytes.Equal(sectorsOf(image, 8+4*n, 4), wide(n)) || !bytes.Equal(sectorsOf(image, 8+400+4*n, 4), wide(1000+n)) {
			t.Errorf("the slots %d and %d have other bytes", n, 100+n)
		}
	}
	if !bytes.Equal(sectorsOf(image, 2, 6), sectorsOf(before, 2, 6)) || !bytes.Equal(image[512*808:], before[512*808:]) {
		t.Error("sectors are written that are none of a page file")
	}
	want := content{seq: 1}.with(second...)
	wantContent(t, "what stands elsewhere", opened(t, d), want)
	wantContent(t, "without the sectors behind", opened(t, diskOf(t, image[:512*808])), want)
}

// TestP802Written: the roots have just the bytes of the table.
func TestP802Written(t *testing.T) {
	d := newDisk(t, 808)
	f := opened(t, d)
	wantOK(t, f, put(99, numbered(1)), put(0, numbered(2)))
	image := d.Image()
	if !bytes.Equal(sectorsOf(image, 0, 1), zeros()) || !bytes.Equal(sectorsOf(image, 1, 1), rootOf(1, map[int]int{0: 0, 99: 1})) {
		t.Error("the roots behind the first commit")
	}
	wantOK(t, f, put(0, nil), put(50, numbered(3)))
	image = d.Image()
	if !bytes.Equal(sectorsOf(image, 0, 1), rootOf(2, map[int]int{50: 2, 99: 1})) || !bytes.Equal(sectorsOf(image, 1, 1), rootOf(1, map[int]int{0: 0, 99: 1})) {
		t.Error("the roots behind the second commit")
	}
	for seq := 3; seq <= 600; seq++ {
		wantOK(t, f, put(70, nil))
		if at := seq % 2; !bytes.Equal(sectorsOf(d.Image(), at, 1), rootOf(uint64(seq), map[int]int{50: 2, 99: 1})) {
			t.Fatalf("the root of the number %d", seq)
		}
	}
}

func manySlots(n int) map[int]int {
	slots := map[int]int{}
	for i := range n {
		slots[i] = 199 - 2*i
	}
	return slots
}

// TestP802Good: sectors that are a root, and what they say.
func TestP802Good(t *testing.T) {
	for _, c := range []struct {
		sector int
		seq    uint64
		slots  map[int]int
	}{
		{1, 1, nil}, {0, 2, nil}, {1, 3, map[int]int{0: 0}}, {0, 4, map[int]int{99: 199}}, {0, 6, map[int]int{0: 199, 1: 0, 99: 77}},
		{0, 256, manySlots(100)}, {1, 257, manySlots(99)}, {0, 1 << 40, manySlots(3)}, {1, 0x0102030405060709, manySlots(7)},
		{0, 1 << 62, manySlots(2)}, {1, 1<<62 - 1, manySlots(1)}, {0, 1<<62 - 2, nil},
	} {
		sectors := [][]byte{torn(), torn()}
		sectors[c.sector] = rootOf(c.seq, c.slots)
		want := content{seq: int(c.seq), pages: map[int]string{}}
		for n, s := range c.slots {
			want.pages[n] = string(numbered(s))
		}
		wantContent(t, "a good root", opened(t, diskOf(t, fullImage(sectors[0], sectors[1]))), want)
	}
	for at := range 2 {
		sectors := [][]byte{torn(), torn()}
		sectors[at] = zeros()
		wantContent(t, "a root of zeros", opened(t, diskOf(t, fullImage(sectors[0], sectors[1]))), content{})
	}
}

// wantNotGood: a sector is no root; every slot has a page, so that nothing else can be wrong.
func wantNotGood(t *testing.T, what string, sector int, b []byte) {
	t.Helper()
	sectors := [][]byte{torn(), torn()}
	sectors[sector] = b
	wantRefused(t, what, diskOf(t, fullImage(sectors[0], sectors[1])), api.ErrRoot)
	other := map[int]int{3: 3}
	sectors[1-sector] = rootOf(uint64(3-sector), other)
	want := content{seq: 3 - sector, pages: map[int]string{3: string(numbered(3))}}
	wantContent(t, what+", beside a good one", opened(t, diskOf(t, fullImage(sectors[0], sectors[1]))), want)
}

func TestP802NotGood(t *testing.T) {
	some := map[int]int{0: 5, 7: 199, 99: 0}
	for _, c := range []struct {
		what   string
		sector int
		seq    uint64
	}{
		{"an odd number in sector 0", 0, 3}, {"an even number in sector 1", 1, 2}, {"the number 0 with a mark", 0, 0}, {"the number 0 with a mark in sector 1", 1, 0},
		{"2 to the 62nd and 2", 0, 1<<62 + 2}, {"2 to the 62nd and 1", 1, 1<<62 + 1}, {"2 to the 62nd in sector 1", 1, 1 << 62}, {"2 to the 63rd", 0, 1 << 63},
		{"a number with all bits", 1, math.MaxUint64}, {"one less", 0, math.MaxUint64 - 1},
	} {
		wantNotGood(t, c.what, c.sector, rootOf(c.seq, some))
		wantNotGood(t, c.what+", no pages", c.sector, rootOf(c.seq, nil))
	}
	good := rootOf(0x0102030405060708, some)
	for _, c := range []byte{0, 1, 81, 83, 255} {
		wantNotGood(t, "another mark", 0, edited(good, 0, c))
	}
	for _, c := range []byte{201, 202, 255} {
		wantNotGood(t, "a slot that is not there", 0, edited(good, 9+40, c))
		wantNotGood(t, "a slot that is not there", 0, edited(good, 9+99, c))
		wantNotGood(t, "a slot that is not there", 0, edited(good, 9, c))
	}
	for _, s := range []byte{6, 200, 1} {
		wantNotGood(t, "a slot twice", 0, edited(good, 9+40, s))
	}
	wantNotGood(t, "a slot twice, side by side", 0, edited(edited(good, 9+98, 7), 9+97, 7))
	wantNotGood(t, "half a root", 0, append(slices.Clone(good[:256]), make([]byte, 256)...))
	wantNotGood(t, "zeros, then half a root", 0, append(make([]byte, 256), good[256:]...))
}

// TestP802EachByte: each byte of a root changed, and of a sector of zeros. A page's byte may be another one: then the page is another.
func TestP802EachByte(t *testing.T) {
	slots := map[int]int{0: 5, 7: 199, 99: 0}
	good := rootOf(0x0102030405060709, slots)
	d := diskOf(t, fullImage(torn(), good))
	for at := range 512 {
		d.Write(1, edited(zeros(), at, 1))
		wantRefused(t, "zeros but one", d, api.ErrRoot)
		if at < 9 || at >= 109 {
			d.Write(1, edited(good, at, good[at]^64))
			wantRefused(t, "a byte that is another", d, api.ErrRoot)
			continue
		}
		d.Write(1, edited(good, at, 42))
		if got, ok := opened(t, d).Page(at - 9); !ok || !bytes.Equal(got, numbered(41)) {
			t.Errorf("the page %d is not that of its slot", at-9)
		}
	}
}

// TestP803Counts: of two good roots the one with the greater number counts, however far it is from the other.
func TestP803Counts(t *testing.T) {
	slots := []map[int]int{{0: 0, 5: 11}, {5: 12, 6: 0}}
	for _, seq := range [][]uint64{{2, 1}, {2, 3}, {8, 7}, {8, 9}, {256, 255}, {256, 257}, {1 << 62, 1<<62 - 1}, {2, 1<<62 - 1}, {1 << 62, 1}, {1 << 40, 1<<40 + 1}} {
		image := fullImage(rootOf(seq[0], slots[0]), rootOf(seq[1], slots[1]))
		at := 0
		if seq[1] > seq[0] {
			at = 1
		}
		want := content{seq: int(seq[at]), pages: map[int]string{}}
		for n, s := range slots[at] {
			want.pages[n] = string(numbered(s))
		}
		wantContent(t, "two good roots", opened(t, diskOf(t, image)), want)
	}
	want := content{seq: 1, pages: map[int]string{1: string(numbered(2))}}
	wantContent(t, "beside zeros", opened(t, diskOf(t, fullImage(zeros(), rootOf(1, map[int]int{1: 2})))), want)
	want.seq = 2
	wantContent(t, "beside zeros", opened(t, diskOf(t, fullImage(rootOf(2, map[int]int{1: 2}), zeros()))), want)
	wantContent(t, "two of number 0", opened(t, diskOf(t, fullImage(zeros(), zeros()))), content{})
	wantContent(t, "a new disk", opened(t, newDisk(t, 808)), content{})
	wantContent(t, "a new disk with more", opened(t, newDisk(t, 809)), content{})
}

func TestP803Refused(t *testing.T) {
	for _, n := range []int{1, 2, 8, 11, 12, 807} {
		wantRefused(t, "too few sectors", newDisk(t, n), api.ErrRoot)
		wantRefused(t, "too few sectors, a good root", diskOf(t, fullImage(zeros(), rootOf(1, nil))[:512*n]), api.ErrRoot)
	}
	wantRefused(t, "no good root", diskOf(t, fullImage(torn(), torn())), api.ErrRoot)
	for _, image := range [][]byte{fullImage(zeros(), zeros()), fullImage(torn(), torn()), fullImage(rootOf(2, map[int]int{0: 3}), torn()), make([]byte, 512), spoiltAt(fullImage(rootOf(2, map[int]int{0: 3}), torn()), 3)} {
		d := diskOf(t, image)
		d.Off()
		wantRefused(t, "off", d, api.ErrDown)
	}
}

// spoiltAt: the image with bytes in these slots that are no pages.
func spoiltAt(image []byte, slots ...int) []byte {
	for _, s := range slots {
		image[512*(8+4*s)+2047] = 1
	}
	return image
}

// TestP803Spoilt: a spoilt page is told, wherever it is among the others; one that the root doesn't name is not looked at.
func TestP803Spoilt(t *testing.T) {
	slots := manySlots(100)
	older := map[int]int{1: 0, 2: 2}
	for n := range 100 {
		image := fullImage(rootOf(6, older), rootOf(7, slots))
		wantRefused(t, "one spoilt page", diskOf(t, spoiltAt(image, slots[n])), api.ErrPage)
	}
	wantRefused(t, "all pages spoilt", diskOf(t, spoiltAt(fullImage(zeros(), rootOf(7, slots)), 1, 3, 5, 99, 101, 197, 199)), api.ErrPage)
	d := diskOf(t, fullImage(zeros(), rootOf(1, map[int]int{4: 100})))
	for at := 30; at < 2048; at++ {
		sector := 408 + at/512
		was, _ := d.Read(sector)
		d.Write(sector, edited(was, at%512, 9))
		wantRefused(t, "a byte behind the page's end", d, api.ErrPage)
		d.Write(sector, was)
	}
	wantContent(t, "a page that was mended", opened(t, d), content{seq: 1, pages: map[int]string{4: string(numbered(100))}})
	image := spoiltAt(fullImage(rootOf(6, older), rootOf(5, slots)), 1, 3, 4, 199)
	want := content{seq: 6, pages: map[int]string{1: string(numbered(0)), 2: string(numbered(2))}}
	wantContent(t, "spoilt slots that don't count", opened(t, diskOf(t, image)), want)
	wantContent(t, "no page at all", opened(t, diskOf(t, make([]byte, 512*808))), content{})
}

// TestP803ReadsAlone: Open writes nothing, and leaves what is armed.
func TestP803ReadsAlone(t *testing.T) {
	for _, image := range [][]byte{fullImage(zeros(), zeros()), fullImage(torn(), rootOf(7, manySlots(100))), fullImage(torn(), torn()), spoiltAt(fullImage(torn(), rootOf(7, manySlots(100))), 1)} {
		d := diskOf(t, image)
		d.Arm(0, 0)
		Open(d)
		Open(d)
		if d.Writes() != 0 || !d.IsOn() || !bytes.Equal(d.Image(), image) {
			t.Error("Open has written")
		}
		if err := d.Write(3, torn()); err != api.ErrDown {
			t.Error("Open has taken what was armed")
		}
	}
}

// TestP803EverySchedule: the same answer, however many run at once.
func TestP803EverySchedule(t *testing.T) {
	defer runtime.GOMAXPROCS(runtime.GOMAXPROCS(0))
	slots := manySlots(100)
	good := diskOf(t, fullImage(torn(), rootOf(7, slots)))
	bad := diskOf(t, spoiltAt(fullImage(torn(), rootOf(7, slots)), slots[0], slots[50], slots[99]))
	want := content{seq: 7, pages: map[int]string{}}
	for n, s := range slots {
		want.pages[n] = string(numbered(s))
	}
	for i := range 60 {
		runtime.GOMAXPROCS(1 + i%4)
		wantContent(t, "many pages", opened(t, good), want)
		wantRefused(t, "many pages", bad, api.ErrPage)
	}
}

func TestP804Looking(t *testing.T) {
	d := newDisk(t, 808)
	f := opened(t, d)
	wantContent(t, "a new one", f, content{})
	now := content{}
	for _, l := range [][]api.Change{
		changes(put(64, numbered(64)), put(0, wide(1)), put(99, hintPage(3))), changes(put(1, numbered(1))), changes(put(64, nil), put(65, nil)), changes(put(0, wide(2))), changes(put(0, nil), put(1, nil), put(99, nil)),
	} {
		wantOK(t, f, l...)
		now = now.with(l...)
		wantContent(t, "behind a commit", f, now)
		wantContent(t, "opened behind a commit", opened(t, d), now)
	}
	for _, n := range []int{-1, 100, 255, 256, math.MinInt, math.MaxInt} {
		if b, ok := f.Page(n); b != nil || ok {
			t.Errorf("Page(%d): %d bytes, %v", n, len(b), ok)
		}
	}
}

// TestP804NotTheDisk: looking doesn't ask the disk, whatever becomes of it.
func TestP804NotTheDisk(t *testing.T) {
	d := newDisk(t, 808)
	f := opened(t, d)
	wantOK(t, f, put(3, wide(3)), put(4, numbered(4)))
	want := content{}.with(put(3, wide(3)), put(4, numbered(4)))
	g := opened(t, d)
	for i := range 808 {
		d.Write(i, torn())
	}
	wantContent(t, "spoilt", f, want)
	wantContent(t, "spoilt", g, want)
	d.Off()
	wantContent(t, "off", f, want)
	wantContent(t, "off", g, want)
	d.On()
	wantContent(t, "on again, and no commit between", f, want)
	wantOK(t, f, put(3, nil))
	wantContent(t, "a commit behind it", f, want.with(put(3, nil)))
}

// TestP805Order: of several errors the first of the chapter.
func TestP805Order(t *testing.T) {
	top := func() *File {
		return opened(t, diskOf(t, fullImage(rootOf(1<<62, map[int]int{1: 1}), torn())))
	}
	right, none, short := numbered(1), []byte(nil), numbered(1)[:2047]
	for _, c := range []struct {
		what string
		l    []api.Change
		want api.Errno
	}{
		{"a page below", changes(put(-1, right)), api.ErrArg}, {"a page above", changes(put(100, right)), api.ErrArg}, {"a page below goes", changes(put(-1, none)), api.ErrArg}, {"a page above goes", changes(put(100, none)), api.ErrArg},
		{"far below", changes(put(math.MinInt, right), put(1, right)), api.ErrArg}, {"far above", changes(put(1, right), put(math.MaxInt, right)), api.ErrArg}, {"above by a byte", changes(put(256, right)), api.ErrArg},
		{"twice", changes(put(5, right), put(5, right)), api.ErrArg}, {"twice, apart", changes(put(5, right), put(6, right), put(5, right)), api.ErrArg}, {"twice, going", changes(put(5, none), put(7, right), put(5, none)), api.ErrArg}, {"there and gone", changes(put(0, right), put(0, none)), api.ErrArg},
		{"a wrong page ahead of no page", changes(put(1, short), put(100, right)), api.ErrArg}, {"a wrong page ahead of a page twice", changes(put(1, short), put(1, short)), api.ErrArg}, {"wrong bytes of no page", changes(put(-1, []byte{1})), api.ErrArg},
		{"short", changes(put(1, short)), api.ErrPage}, {"long", changes(put(1, append(numbered(1), 0))), api.ErrPage}, {"one byte", changes(put(1, []byte{2})), api.ErrPage}, {"zeros", changes(put(1, make([]byte, 2048))), api.ErrPage},
		{"a wrong one behind right ones", changes(put(9, right), put(8, none), put(10, short)), api.ErrPage}, {"a wrong one ahead of right ones", changes(put(9, short), put(8, right), put(10, none)), api.ErrPage},
	} {
		d := newDisk(t, 808)
		f := opened(t, d)
		wantOK(t, f, put(1, wide(1)), put(5, wide(5)))
		image, writes := d.Image(), d.Writes()
		wantErr(t, c.what, f.Commit(c.l), c.want)
		wantErr(t, c.what+", at the last number", top().Commit(c.l), c.want)
		if d.Writes() != writes || !bytes.Equal(d.Image(), image) {
			t.Errorf("%s: a refused commit has written", c.what)
		}
		wantContent(t, c.what, f, content{}.with(put(1, wide(1)), put(5, wide(5))))
		d.Off()
		wantErr(t, c.what+", off", f.Commit(c.l), api.ErrDown)
		wantDead(t, c.what+", off", f, d)
	}
}

// TestP805TooMany: more changes than there are pages.
func TestP805TooMany(t *testing.T) {
	var l []api.Change
	for n := range 1000 {
		l = append(l, put(n%100, numbered(n)))
	}
	f := opened(t, newDisk(t, 808))
	wantErr(t, "101 changes", f.Commit(l[:101]), api.ErrArg)
	wantErr(t, "1000 changes", f.Commit(l), api.ErrArg)
	wantErr(t, "100 changes", f.Commit(l[:100]), api.OK)
}

// TestP805LastNumber: there is no commit behind that of 2 to the 62nd.
func TestP805LastNumber(t *testing.T) {
	d := diskOf(t, fullImage(torn(), rootOf(1<<62-1, map[int]int{1: 1})))
	f := opened(t, d)
	want := content{seq: 1<<62 - 1, pages: map[int]string{1: string(numbered(1))}}
	wantOK(t, f, put(2, numbered(2)))
	want = want.with(put(2, numbered(2)))
	wantContent(t, "the last commit", f, want)
	if !bytes.Equal(sectorsOf(d.Image(), 0, 1), rootOf(1<<62, map[int]int{1: 1, 2: 0})) {
		t.Error("the last root has other bytes")
	}
	for range 2 {
		image, writes := d.Image(), d.Writes()
		wantErr(t, "a page more", f.Commit(changes(put(3, numbered(3)))), api.ErrRoot)
		wantErr(t, "a page less", f.Commit(changes(put(1, nil))), api.ErrRoot)
		wantErr(t, "a page that isn't there less", f.Commit(changes(put(70, nil))), api.ErrRoot)
		wantErr(t, "no change", f.Commit(nil), api.OK)
		wantErr(t, "an empty list", f.Commit(changes()), api.OK)
		if d.Writes() != writes || !bytes.Equal(d.Image(), image) {
			t.Error("there is a commit behind the last one")
		}
		wantContent(t, "behind the last commit", f, want)
		f = opened(t, d)
	}
}

// TestP805NoChange: nothing is done.
func TestP805NoChange(t *testing.T) {
	d := newDisk(t, 808)
	f := opened(t, d)
	d.Arm(0, 0)
	wantErr(t, "nil", f.Commit(nil), api.OK)
	wantErr(t, "an empty list", f.Commit(changes()), api.OK)
	wantContent(t, "no change", f, content{})
	wantWrote(t, "no change", d, 0)
	if !d.IsOn() {
		t.Error("no change has put the power off")
	}
}

// TestP805Slots: the least free slots, by rising pages, in whatever order the changes come.
func TestP805Slots(t *testing.T) {
	d := newDisk(t, 808)
	f := opened(t, d)
	commit := func(writes int, sectors []int, l ...api.Change) {
		t.Helper()
		wantOK(t, f, l...)
		wantWrote(t, "a commit", d, writes, sectors...)
	}
	commit(13, []int{8, 9, 10, 11, 12, 13, 14, 15, 16, 17, 18, 19, 1}, put(50, numbered(50)), put(7, numbered(7)), put(20, numbered(20))) // slots: 7 0, 20 1, 50 2
	commit(14, []int{0}, put(20, []byte{}), put(3, nil))                                                                                  // slot 1 is free
	commit(23, []int{12, 13, 14, 15, 20, 21, 22, 23, 1}, put(50, numbered(51)), put(7, numbered(8)))                                      // 7 1, 50 3
	commit(28, []int{8, 9, 10, 11, 0}, put(7, nil), put(99, numbered(99)))                                                                // 99 0; 7's slot is not dealt though it goes
	commit(41, []int{12, 13, 14, 15, 16, 17, 18, 19, 24, 25, 26, 27, 1}, put(2, numbered(2)), put(1, numbered(1)), put(0, numbered(0)))   // 0 1, 1 2, 2 4
	want := content{seq: 4, pages: map[int]string{50: string(numbered(51)), 99: string(numbered(99))}}.with(put(0, numbered(0)), put(1, numbered(1)), put(2, numbered(2)))
	wantContent(t, "behind the commits", f, want)
	wantContent(t, "opened behind the commits", opened(t, d), want)
	if !bytes.Equal(sectorsOf(d.Image(), 1, 1), rootOf(5, map[int]int{0: 1, 1: 2, 2: 4, 50: 3, 99: 0})) {
		t.Error("the last root has other slots")
	}
}

// TestP805Full: all pages at once, again and again: there is a slot for each.
func TestP805Full(t *testing.T) {
	d := newDisk(t, 808)
	f := opened(t, d)
	now := content{}
	for round := range 4 {
		var l []api.Change
		for n := range 100 {
			l = append(l, put(n, numbered(1000*round+n)))
		}
		slices.Reverse(l)
		wantOK(t, f, l...)
		now = now.with(l...)
		wantWrote(t, "all pages", d, 401*(round+1), 8+400*(round%2)+399, (round+1)%2)
		wantContent(t, "all pages", f, now)
		f = opened(t, d)
		wantContent(t, "all pages, opened", f, now)
	}
	var l []api.Change
	for n := range 100 {
		l = append(l, put(n, nil))
	}
	wantOK(t, f, l...)
	wantWrote(t, "no pages", d, 4*401+1, 1)
	wantContent(t, "no pages", opened(t, d), content{seq: 5})
}

// TestP805AnyPage: a page of any kind may stand at any number.
func TestP805AnyPage(t *testing.T) {
	f := opened(t, newDisk(t, 808))
	l := changes(put(0, hintPage(1)), put(1, wide(1)), put(65, numbered(65)), put(99, wide(7)))
	wantOK(t, f, l...)
	wantContent(t, "kinds", f, content{}.with(l...))
	if kind, _, _ := page.Check(must(f.Page(0))); kind != page.KindHint {
		t.Errorf("a hint has become %d", kind)
	}
}

func must(b []byte, ok bool) []byte {
	if !ok {
		panic("no page")
	}
	return b
}

// TestP806Dead: at whichever raw write the power fails, and when it is off ahead.
func TestP806Dead(t *testing.T) {
	for after := range 10 {
		for _, bytes := range []int{0, 1, 511, 512} {
			d := newDisk(t, 808)
			f := opened(t, d)
			wantOK(t, f, put(1, numbered(1)))
			d.Arm(after, bytes)
			err := f.Commit(changes(put(1, numbered(2)), put(3, numbered(3)), put(2, nil)))
			if after == 9 {
				wantErr(t, "no write was torn", err, api.OK)
				wantContent(t, "no write was torn", f, content{seq: 1}.with(put(1, numbered(2)), put(3, numbered(3))))
				continue
			}
			wantErr(t, "a torn write", err, api.ErrDown)
			wantWrote(t, "a torn write", d, 5+after+1)
			wantDead(t, "off", f, d)
			d.On()
			wantDead(t, "on again", f, d)
		}
	}
	d := newDisk(t, 808)
	f, g := opened(t, d), opened(t, d)
	wantOK(t, f, put(1, numbered(1)))
	d.Off()
	if f.Dead() || g.Dead() {
		t.Error("dead ahead of a commit")
	}
	wantErr(t, "off, no change", f.Commit(nil), api.ErrDown)
	wantDead(t, "off", f, d)
	d.On()
	wantDead(t, "on again", f, d)
	if g.Dead() {
		t.Error("another file is dead")
	}
	wantErr(t, "off and on between two commits", g.Commit(nil), api.OK)
	wantContent(t, "a file opened behind a dead one", opened(t, d), content{}.with(put(1, numbered(1))))
	for _, e := range []api.Errno{g.Commit(changes(put(-1, nil))), g.Commit(changes(put(1, torn())))} {
		if e == api.OK || g.Dead() {
			t.Errorf("refused: %d, dead %v", e, g.Dead())
		}
	}
}
