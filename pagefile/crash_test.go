package pagefile

import (
	"math/rand"
	"testing"

	"rookery/api"
	"rookery/disk"
)

// crash: where the power fails in a commit: behind so many raw writes, of the next one so many bytes are there.
type crash struct{ after, torn int }

// writesOf: how many raw writes a commit has.
func writesOf(l []api.Change) int {
	n := 1
	for _, c := range l {
		if len(c.Data) > 0 {
			n += 4
		}
	}
	return n
}

// crashed plays a commit on a disk whose power fails in it, and tells what is to be found behind it: what P807 leaves open is asked of the disk.
func crashed(t *testing.T, d *disk.Disk, f *File, was content, l []api.Change, at crash) (*File, content) {
	t.Helper()
	next := was.with(l...)
	d.Arm(at.after, at.torn)
	err := f.Commit(l)
	if want := at.after < writesOf(l); (err == api.ErrDown) != want || f.Dead() != want {
		t.Fatalf("%v: Commit: %d, dead %v", at, err, f.Dead())
	}
	d.Arm(-1, 0)
	d.On()
	g := opened(t, d)
	now := was
	whole := at.after >= writesOf(l) || at.after == writesOf(l)-1 && at.torn >= 512
	if next.tells(g) {
		now = next
	}
	if !now.tells(g) {
		t.Fatalf("%v: neither the pages from ahead nor those from behind: Seq %d, Pages %v", at, g.Seq(), g.Pages())
	}
	if whole && now.seq != next.seq {
		t.Fatalf("%v: the root is whole and doesn't count", at)
	}
	if at.after < writesOf(l)-1 && now.seq != was.seq {
		t.Fatalf("%v: there is no root yet and it counts", at)
	}
	return g, now
}

// story: commits of every sort, each behind the other.
func story() [][]api.Change {
	return [][]api.Change{
		changes(put(1, numbered(1)), put(0, wide(1))),
		changes(put(1, numbered(2))),
		changes(put(1, nil), put(2, wide(3)), put(99, hintPage(4))),
		changes(put(2, wide(4)), put(0, wide(2)), put(98, nil)),
		changes(put(0, nil), put(2, nil), put(99, nil)),
		changes(put(5, numbered(5))),
	}
}

// played: a disk and its file behind the first commits of the story.
func played(t *testing.T, n int) (*disk.Disk, *File, content) {
	t.Helper()
	d := newDisk(t, 808)
	f := opened(t, d)
	now := content{}
	for _, l := range story()[:n] {
		wantOK(t, f, l...)
		now = now.with(l...)
	}
	return d, f, now
}

// tears: where a sector may be torn: at the edges of a root's fields and within them.
func tears() []int { return []int{0, 1, 2, 8, 9, 10, 11, 60, 109, 504, 505, 506, 511, 512} }

// TestP807EveryWrite: the power fails at every raw write of every commit, at every edge; the story goes on behind it to its end.
func TestP807EveryWrite(t *testing.T) {
	for n, l := range story() {
		for after := range writesOf(l) + 1 {
			for _, torn := range tears() {
				d, f, was := played(t, n)
				g, now := crashed(t, d, f, was, l, crash{after, torn})
				wantContent(t, "a disk of the same bytes", opened(t, diskOf(t, d.Image())), now)
				for _, more := range story()[n:] {
					wantOK(t, g, more...)
					now = now.with(more...)
					wantContent(t, "behind a crash", opened(t, d), now)
				}
			}
		}
	}
}

// TestP807EveryByteOfARoot: a root that is torn at any of its bytes, where the number goes on by one byte, and where by two or three.
func TestP807EveryByteOfARoot(t *testing.T) {
	d := newDisk(t, 808)
	f := opened(t, d)
	wantOK(t, f, put(6, numbered(6)))
	for _, seq := range []int{1, 2, 254, 255, 256, 257, 65535, 65536} {
		for f.Seq() < seq {
			wantOK(t, f, put(70, nil))
		}
		from := 500
		if seq == 2 || seq == 255 {
			from = 0
		}
		was := content{seq: seq, pages: map[int]string{6: string(numbered(6))}}
		wantTorn(t, d.Image(), was, from)
	}
}

// wantTorn: a commit on a disk of these bytes, its root torn at each byte from one on: up to the second number the elder root counts.
func wantTorn(t *testing.T, image []byte, was content, from int) {
	t.Helper()
	young := 0
	for torn := from; torn <= 513; torn++ {
		d := diskOf(t, image)
		f, now := crashed(t, d, opened(t, d), was, changes(put(6, nil), put(7, numbered(7))), crash{4, torn})
		if now.seq != was.seq {
			young++
		}
		if torn <= 504 && young > 0 {
			t.Fatalf("Seq %d: %d bytes of a root count", was.seq, torn)
		}
		wantOK(t, f, put(8, numbered(8)))
		wantContent(t, "behind a torn root", opened(t, d), now.with(put(8, numbered(8))))
	}
	if young < 2 {
		t.Errorf("Seq %d: a whole root doesn't count", was.seq)
	}
}

// TestP807Again: the power fails again, in a commit of the file that was opened behind the first failing: roots torn over torn ones, slots dealt anew.
func TestP807Again(t *testing.T) {
	first := changes(put(1, numbered(11)), put(3, numbered(13)))
	second := changes(put(3, wide(33)), put(1, nil))
	third := changes(put(2, nil), put(4, wide(44)))
	for _, n := range []int{0, 1, 4} {
		for _, after := range []int{5, 8} {
			for _, one := range tears() {
				for _, two := range tears() {
					d, f, now := played(t, n)
					f, now = crashed(t, d, f, now, first, crash{after, one})
					f, now = crashed(t, d, f, now, second, crash{4, two})
					f, now = crashed(t, d, f, now, third, crash{4, one})
					f, now = crashed(t, d, f, now, second, crash{two % 5, two})
					wantOK(t, f, third...)
					wantContent(t, "behind four crashes", opened(t, d), now.with(third...))
				}
			}
		}
	}
}

func randomPage(r *rand.Rand) []byte {
	switch r.Intn(3) {
	case 0:
		return wide(r.Intn(1 << 20))
	case 1:
		return hintPage(r.Intn(api.MaxNodes))
	}
	return numbered(r.Intn(1 << 20))
}

// randomChanges: changes that are right, of so many pages at most.
func randomChanges(r *rand.Rand, most int) []api.Change {
	var l []api.Change
	for _, n := range r.Perm(api.Pages)[:r.Intn(most+1)] {
		if r.Intn(2) == 0 {
			n = r.Intn(4)
		}
		if !has(l, n) {
			l = append(l, put(n, [][]byte{nil, {}, randomPage(r), randomPage(r), randomPage(r)}[r.Intn(5)]))
		}
	}
	return l
}

func has(l []api.Change, n int) bool {
	for _, c := range l {
		if c.Page == n {
			return true
		}
	}
	return false
}

// TestP807Random: long rows of crashes.
func TestP807Random(t *testing.T) {
	for seed := range int64(30) {
		r := rand.New(rand.NewSource(seed))
		d := newDisk(t, 808)
		f, now := opened(t, d), content{}
		for range 60 {
			l := randomChanges(r, 1+r.Intn(8))
			if len(l) == 0 {
				continue
			}
			f, now = crashed(t, d, f, now, l, crash{r.Intn(writesOf(l) + 1), tears()[r.Intn(len(tears()))]})
		}
	}
}
