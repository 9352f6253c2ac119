package fsck

import (
	"fmt"
	"testing"

	"rookery/api"
	"rookery/disk"
	"rookery/pagefile"
	"rookery/store"
)

// TestP2004Edges: of an image without a finding Open has an error just at its two bounds.
func TestP2004Edges(t *testing.T) {
	c := five()
	top := 1<<48 - 1
	for _, x := range []struct {
		what string
		gen  int
		seq  uint64
		want api.Errno
	}{
		{"neither", top - 1, 1<<62 - 2, api.OK}, {"Gen at its bound", top, 6, api.ErrCount}, {"the root's number at its bound", 5, 1 << 62, api.ErrRoot}, {"both", top, 1 << 62, api.ErrCount},
	} {
		b := make([]byte, size)
		setSlot(b, 9, clockPage(x.gen, cl(1, sp(2, 1))))
		setRoot(b, 0, rootOf(x.seq, map[int]int{0: 9}))
		wantFinds(t, x.what, b, c, 2)
		wantDump(t, x.what, b, c, 2, state(x.gen, clocks(cl(1, sp(2, 1)), cl(2)), nil))
		if _, err := store.Open(diskOf(t, b), c, 2); err != x.want {
			t.Errorf("%s: Open: %d; want %d", x.what, err, x.want)
		}
	}
}

// agrees: Look, Dump and Rebuild of an image against pagefile.Open and store.Open of it: P2004, P2006, P2009. It tells whether there is a finding.
func agrees(t *testing.T, what string, image []byte, c api.Config, me int) bool {
	t.Helper()
	finds, err := Look(image, c, me)
	left, and := Dump(image, c, me)
	if err != api.OK || and != api.OK {
		t.Fatalf("%s: Look: %d, Dump: %d", what, err, and)
	}
	d := diskOf(t, image)
	f, broken := pagefile.Open(d)
	s, refused := store.Open(d, c, me)
	switch {
	case len(finds) == 0 && broken != api.OK:
		t.Errorf("%s: there is no finding; pagefile.Open: %d", what, broken)
	case len(finds) == 0 && refused == api.OK:
		see := s.See()
		if see.Gen--; showState(see) != showState(left) {
			t.Errorf("%s: Dump: %s; See, one Gen back: %s", what, showState(left), showState(see))
		}
	case len(finds) == 0 && !(refused == api.ErrCount && left.Gen == 1<<48-1 || refused == api.ErrRoot && f.Seq() == 1<<62):
		t.Errorf("%s: there is no finding; Open: %d", what, refused)
	case len(finds) > 0 && refused != api.ErrRoot && refused != api.ErrPage:
		t.Errorf("%s: Look: %v; Open: %d", what, finds, refused)
	}
	b, err := Rebuild(left, c, me)
	if err != api.OK {
		t.Fatalf("%s: Rebuild of its Dump %s: %d", what, showState(left), err)
	}
	wantFinds(t, what+", rebuilt", b, c, me)
	wantDump(t, what+", rebuilt", b, c, me, left)
	return len(finds) > 0
}

// TestP2005Gen: it is told, whatever the clocks are; not of a page that isn't readable.
func TestP2005Gen(t *testing.T) {
	c := three()
	empty := clocks(cl(0))
	wantDump(t, "a wrong clock", image(pages{0: clockPage(77, cl(5, sp(1, 1)))}), c, 1, state(77, empty, nil))
	wantDump(t, "a spoilt page", image(pages{0: spoilt(clockPage(77), 2047, 1)}), c, 1, state(0, empty, nil))
	wantDump(t, "another kind", image(pages{0: keyPage(wr(1, 1))}), c, 1, state(0, empty, nil))
	wantDump(t, "no page 0", image(pages{1: clockPage(77)}), c, 1, state(0, empty, nil))
	wantDump(t, "the greatest", image(pages{0: clockPage(1<<48 - 1)}), c, 1, state(1<<48-1, empty, nil))
}

// TestP2005Clocks: of all ranges that prefer the node, and of no other.
func TestP2005Clocks(t *testing.T) {
	c := five()
	b := image(pages{0: clockPage(1, cl(0, sp(1, 1)), cl(1, sp(2, 2)), cl(2, sp(3, 3)), cl(3, sp(4, 4)))})
	for me, want := range [][]api.Clock{{cl(2, sp(3, 3))}, {cl(0, sp(1, 1)), cl(3, sp(4, 4))}, {cl(1, sp(2, 2)), cl(2, sp(3, 3))}, {cl(0, sp(1, 1)), cl(3, sp(4, 4))}, {cl(1, sp(2, 2))}} {
		wantDump(t, fmt.Sprint("node ", me), b, c, me, state(1, want, nil))
	}
	wantDump(t, "none is there", image(pages{0: clockPage(1)}), c, 3, state(1, clocks(cl(0), cl(3)), nil))
}

// TestP2005Keys: of each page what is left, by rising keys.
func TestP2005Keys(t *testing.T) {
	c := five()
	zero, known := clockPage(1, cl(1, sp(0, 9), sp(2, 9))), clocks(cl(1, sp(0, 9), sp(2, 9)), cl(2))
	for _, x := range []struct {
		what string
		p    pages
		want [][]api.Write
	}{
		{"by keys, not pages", pages{1: keyPage(of("o", wr(2, 1))), 9: keyPage(of("a", wr(2, 2))), 64: keyPage(of("k", wr(2, 3)))}, [][]api.Write{{of("a", wr(2, 2))}, {of("k", wr(2, 3))}, {of("o", wr(2, 1))}}},
		{"a write that is not right", pages{1: keyPage(wr(0, 1), wr(2, 1, sp(7, 1)), wr(2, 2))}, [][]api.Write{{wr(0, 1), wr(2, 2)}}},
		{"one that is covered", pages{1: keyPage(wr(0, 1), wr(0, 2), wr(2, 2, sp(0, 1)))}, [][]api.Write{{wr(0, 2), wr(2, 2, sp(0, 1))}}},
		{"one that is covered by one that is not known", pages{1: keyPage(wr(0, 1), wr(4, 2, sp(0, 1)))}, nil},
		{"one that is not known", pages{1: keyPage(wr(0, 1), wr(1, 1), wr(2, 1))}, [][]api.Write{{wr(0, 1), wr(2, 1)}}},
		{"each covers the other", pages{1: keyPage(wr(0, 1, sp(2, 1)), wr(2, 1, sp(0, 1)))}, nil},
		{"no write is left", pages{1: keyPage(wr(4, 1)), 2: keyPage(of("a", wr(2, 1)))}, [][]api.Write{{of("a", wr(2, 1))}}},
		{"too many, the first of those that are left", pages{1: keyPage(wr(0, 1), wr(0, 2), wr(0, 10), wr(2, 1), wr(2, 2))}, [][]api.Write{{wr(0, 1), wr(0, 2), wr(2, 1)}}},
		{"too many, until some are set aside", pages{1: keyPage(wr(0, 1), wr(0, 2, sp(0, 1)), wr(1, 2), wr(2, 1), wr(2, 2))}, [][]api.Write{{wr(0, 2, sp(0, 1)), wr(2, 1), wr(2, 2)}}},
		{"the fourth is set aside, the third is not", pages{1: keyPage(wr(0, 1), wr(0, 2), wr(0, 3), wr(4, 1))}, [][]api.Write{{wr(0, 1), wr(0, 2), wr(0, 3)}}},
		{"the fourth stays, where another goes", pages{1: keyPage(wr(0, 10), wr(2, 1), wr(2, 2), wr(2, 3))}, [][]api.Write{{wr(2, 1), wr(2, 2), wr(2, 3)}}},
		{"another's key", pages{1: keyPage(of("g", wr(2, 1))), 2: keyPage(wr(2, 1))}, [][]api.Write{{wr(2, 1)}}},
		{"a key twice", pages{1: keyPage(wr(2, 1)), 2: keyPage(wr(2, 2))}, [][]api.Write{{wr(2, 1)}}},
		{"a key twice, nothing is left of the first", pages{1: keyPage(wr(4, 1)), 2: keyPage(wr(2, 2))}, nil},
		{"a dot twice", pages{1: keyPage(wr(2, 1)), 2: keyPage(of("a", wr(2, 1)), of("a", wr(2, 2)))}, [][]api.Write{{of("a", wr(2, 2))}, {wr(2, 1)}}},
		{"a dot twice, the first is covered", pages{1: keyPage(wr(0, 1), wr(2, 1, sp(0, 1))), 2: keyPage(of("a", wr(0, 1)))}, [][]api.Write{{wr(2, 1, sp(0, 1))}}},
		{"a dead one", pages{1: keyPage(gone(wr(2, 1)))}, [][]api.Write{{gone(wr(2, 1))}}},
		{"a spoilt page", pages{1: spoilt(keyPage(wr(2, 1)), 1500, 1)}, nil},
	} {
		x.p[0] = zero
		b := image(x.p)
		wantDump(t, x.what, b, c, 2, state(1, known, nil, x.want...))
		agrees(t, x.what, b, c, 2)
	}
	var p = pages{0: clockPage(1, cl(1, sp(2, 20)))}
	for i, key := range []string{"o", "l", "k", "j", "i", "d", "a"} {
		p[3+i] = keyPage(of(key, wr(2, i+1)))
	}
	wantDump(t, "seven keys, where six may be", image(p), c, 2, state(1, clocks(cl(1, sp(2, 20)), cl(2)), nil, list(of("d", wr(2, 6))), list(of("i", wr(2, 5))), list(of("j", wr(2, 4))), list(wr(2, 3)), list(of("l", wr(2, 2))), list(of("o", wr(2, 1)))))
}

// TestP2005Hints: those without any finding, by owners, keys, dots.
func TestP2005Hints(t *testing.T) {
	c := five()
	h := func(owner int, key string, node, count int) api.Hint { return hint(owner, of(key, wr(node, count))) }
	a, b, d, e, f := h(1, "b", 0, 2), h(1, "b", 1, 1), h(1, "g", 0, 1), h(1, "g", 0, 2), h(3, "b", 0, 1)
	put := func(l ...api.Hint) []byte {
		p := pages{0: clockPage(1)}
		for i, x := range l {
			p[65+i] = hintPage(x.Owner, x.Write)
		}
		return image(p)
	}
	empty := clocks(cl(1), cl(2))
	wantDump(t, "in order", put(f, d, b, a), c, 2, state(1, empty, hints(a, b, d, f)))
	wantDump(t, "one too many", put(f, d, b, a, e), c, 2, state(1, empty, hints(a, b, d, f)))
	wantDump(t, "wrong ones count", put(h(4, "g", 0, 1), h(2, "g", 0, 1), b, a, e), c, 2, state(1, empty, hints(a, b)))
	wrong := h(1, "g", 0, 1001)
	wantDump(t, "a write that is not right", put(f, wrong, b), c, 2, state(1, empty, hints(b, f)))
	wantDump(t, "one that is there twice", put(d, hint(1, gone(d.Write)), b), c, 2, state(1, empty, hints(b, d)))
	// the first of a name may have a finding by itself; the second has one all the same
	odd := hint(1, of("g", wr(0, 1, sp(6, 1))))
	wantDump(t, "twice, the first is not right", put(odd, d, b), c, 2, state(1, empty, hints(b)))
	for _, l := range [][]api.Hint{{f, d, b, a}, {f, d, b, a, e}, {h(4, "g", 0, 1), b}, {f, wrong, b}, {d, d}, {odd, d}} {
		agrees(t, fmt.Sprint(l), put(l...), c, 2)
	}
}

// TestP2006Open: a store's own disk, behind each sort of call.
func TestP2006Open(t *testing.T) {
	c := five()
	d := newDisk(t)
	s := opened(t, d, c, 2)
	for i, call := range []func() api.Errno{
		func() api.Errno { _, err := s.Mint("k", false, []byte("v"), nil); return err }, func() api.Errno { _, err := s.Merge(of("a", wr(0, 3, sp(1, 1, 3)))); return err }, func() api.Errno { _, err := s.Mint("p", true, nil, nil); return err },
		func() api.Errno {
			_, err := s.Take(1, []api.Span{sp(0, 0, 3), sp(4, 9)}, list(wr(4, 9, sp(2, 1))))
			return err
		}, func() api.Errno { _, err := s.Hint(3, of("g", wr(1, 1))); return err }, func() api.Errno { _, err := s.Hint(1, of("b", wr(1, 1))); return err },
		func() api.Errno { _, err := s.Unhint(3, "g", dot(1, 1)); return err }, func() api.Errno { _, err := s.Merge(wr(2, 5)); return err },
	} {
		if err := call(); err != api.OK {
			t.Fatalf("call %d: %d", i, err)
		}
		what := fmt.Sprint("behind call ", i)
		wantFinds(t, what, d.Image(), c, 2)
		wantDump(t, what, d.Image(), c, 2, s.See())
		agrees(t, what, d.Image(), c, 2)
	}
}

// TestP2006Crash: wherever the power fails, what a node has left has no finding.
func TestP2006Crash(t *testing.T) {
	c := three()
	ends := map[string]int{}
	for after := range 30 {
		for _, torn := range []int{0, 1, 8, 9, 60, 108, 300, 503, 505, 512} {
			d := newDisk(t)
			s := opened(t, d, c, 1)
			d.Arm(after, torn)
			s.Mint("k", false, []byte("v"), nil)
			s.Mint("k", true, nil, []api.Span{sp(1, 1)})
			s.Merge(of("l", wr(2, 2)))
			what := fmt.Sprintf("%d raw writes and %d bytes", after, torn)
			if agrees(t, what, d.Image(), c, 1) {
				t.Errorf("%s: there is a finding", what)
			}
			left, _ := Dump(d.Image(), c, 1)
			ends[showState(left)]++
		}
	}
	if len(ends) != 4 {
		t.Errorf("%d states were left: %v", len(ends), ends)
	}
}

// TestP2006Behind: a file on the same disk behind a spoilt and rebuilt image goes on.
func TestP2006Behind(t *testing.T) {
	c := three()
	d := newDisk(t)
	s := opened(t, d, c, 1)
	s.Mint("k", false, []byte("v"), nil)
	s.Merge(of("l", wr(2, 1)))
	var at int
	for i, b := range d.Image() {
		if b == 'l' {
			at = i
		}
	}
	b := changed(d.Image(), at+5, 255, 255)
	left, _ := Dump(b, c, 1)
	if len(left.Keys) != 1 || left.Keys[0][0].Key != "k" {
		t.Fatalf("Dump: %s", showState(left))
	}
	if _, err := store.Open(diskOf(t, b), c, 1); err != api.ErrPage {
		t.Errorf("Open of the spoilt disk: %d", err)
	}
	var e *disk.Disk = diskOf(t, rebuilt(t, left, c, 1))
	s = opened(t, e, c, 1)
	if w, err := s.Mint("k", false, []byte("w"), []api.Span{sp(1, 1)}); err != api.OK || w.Dot != dot(1, 2) {
		t.Errorf("Mint: %s, %d", show(w), err)
	}
	wantFinds(t, "behind the next write", e.Image(), c, 1)
}
