package fsck

import (
	"bytes"
	"fmt"
	"math"
	"slices"
	"strings"
	"testing"

	"rookery/api"
)

// TestP2001Errors: every choice of the faults: the first one counts.
func TestP2001Errors(t *testing.T) {
	wrong := three()
	wrong.Gap = 65
	whole := rebuilt(t, fifth(), three(), 1)
	for _, c := range []struct {
		what  string
		image []byte
		c     api.Config
		me    int
		want  api.Errno
	}{
		{"all is wrong", nil, wrong, 3, api.ErrArg}, {"config and node", whole, wrong, -1, api.ErrArg}, {"config and image", nil, wrong, 1, api.ErrArg}, {"the config alone", whole, wrong, 1, api.ErrArg}, {"a zero config", whole, api.Config{}, 0, api.ErrArg},
		{"node and image", nil, three(), 3, api.ErrNode}, {"the node alone", whole, three(), 3, api.ErrNode}, {"node -1", whole, three(), -1, api.ErrNode}, {"the greatest", whole, three(), math.MaxInt, api.ErrNode}, {"the least", whole, three(), math.MinInt, api.ErrNode},
		{"no bytes", nil, three(), 1, api.ErrImage}, {"an empty image", []byte{}, three(), 1, api.ErrImage}, {"one byte less", whole[:size-1], three(), 1, api.ErrImage}, {"one byte more", append(slices.Clone(whole), 0), three(), 1, api.ErrImage}, {"one sector less", whole[:size-512], three(), 1, api.ErrImage}, {"one sector more", append(slices.Clone(whole), make([]byte, 512)...), three(), 1, api.ErrImage},
	} {
		wantRefused(t, c.what, c.image, c.c, c.me, c.want)
	}
	for me := range 3 {
		for _, call := range []func() api.Errno{
			func() api.Errno { _, err := Look(whole, three(), me); return err }, func() api.Errno { _, err := Dump(whole, three(), me); return err }, func() api.Errno { _, err := Salvage(whole, three(), me); return err },
		} {
			if err := call(); err != api.OK {
				t.Errorf("node %d: %d", me, err)
			}
		}
	}
}

// TestP2001EveryConfig: each number of the config is looked at.
func TestP2001EveryConfig(t *testing.T) {
	for i, edit := range []func(c *api.Config){
		func(c *api.Config) { c.Nodes = 9 }, func(c *api.Config) { c.Prefer = 4 }, func(c *api.Config) { c.Ranges = 17 }, func(c *api.Config) { c.Siblings = 9 }, func(c *api.Config) { c.Gap = 0 }, func(c *api.Config) { c.Count = 0 }, func(c *api.Config) { c.Keys = 65 }, func(c *api.Config) { c.Hints = 33 }, func(c *api.Config) { c.Bag = 0 },
	} {
		c := three()
		edit(&c)
		wantRefused(t, fmt.Sprint("config ", i), make([]byte, size), c, 1, api.ErrArg)
		if b, err := Rebuild(state(-1, nil, nil), c, 1); b != nil || err != api.ErrArg {
			t.Errorf("config %d: Rebuild: %d bytes, %d", i, len(b), err)
		}
	}
	for _, me := range []int{3, -1, 8, math.MaxInt, math.MinInt} {
		if b, err := Rebuild(state(-1, nil, nil), three(), me); b != nil || err != api.ErrNode {
			t.Errorf("node %d: Rebuild: %d bytes, %d", me, len(b), err)
		}
	}
}

// TestP2002Roots: which of two roots counts, and that none may be good.
func TestP2002Roots(t *testing.T) {
	c := three()
	image := make([]byte, size)
	setSlot(image, 0, clockPage(4))
	setSlot(image, 199, clockPage(9))
	old, young := map[int]int{0: 0}, map[int]int{0: 199}
	torn := bytes.Repeat([]byte{7}, 512)
	for _, x := range []struct {
		what      string
		zero, one []byte
		gen       int
	}{
		{"the even one is the greater", rootOf(6, young), rootOf(5, old), 9}, {"the odd one", rootOf(4, old), rootOf(5, young), 9}, {"far apart", rootOf(1<<62, young), rootOf(1, old), 9},
		{"the younger is torn", spoilt(rootOf(6, young), 504, 0), rootOf(5, old), 4}, {"the elder is torn", torn, rootOf(5, young), 9}, {"one of zeros", make([]byte, 512), rootOf(5, young), 9}, {"zeros, and a torn one", make([]byte, 512), torn, 0},
		{"a slot that is none", rootOf(6, map[int]int{0: 199, 1: 200}), rootOf(5, old), 4}, {"a slot of two pages", rootOf(6, map[int]int{0: 199, 1: 199}), rootOf(5, old), 4}, {"an odd number in sector 0", rootOf(7, young), rootOf(5, old), 4}, {"a number too great", rootOf(1<<62+2, young), rootOf(5, old), 4},
	} {
		setRoot(image, 0, x.zero)
		setRoot(image, 1, x.one)
		wantFinds(t, x.what, image, c, 1)
		wantDump(t, x.what, image, c, 1, state(x.gen, clocks(cl(0)), nil))
	}
	for _, x := range []struct {
		what      string
		zero, one []byte
	}{{"both torn", torn, torn}, {"changed places", rootOf(5, young), rootOf(6, old)}, {"one byte of zeros", spoilt(make([]byte, 512), 511, 1), spoilt(make([]byte, 512), 0, 1)}} {
		setRoot(image, 0, x.zero)
		setRoot(image, 1, x.one)
		wantFinds(t, x.what, image, c, 1, find(FindRoot, -1, 0))
		wantDump(t, x.what, image, c, 1, state(0, clocks(cl(0)), nil))
	}
}

// TestP2002Slots: a page is looked at where its slot is, whichever it is; what no root names is not.
func TestP2002Slots(t *testing.T) {
	c := five()
	p := pages{0: clockPage(5, cl(1, sp(2, 1))), 3: keyPage(wr(2, 1)), 70: hintPage(1, of("g", wr(0, 1)))}
	want := state(5, clocks(cl(1, sp(2, 1)), cl(2)), hints(hint(1, of("g", wr(0, 1)))), list(wr(2, 1)))
	for _, first := range []int{0, 1, 77, 197} {
		b := imageOf(p, first, 1)
		setSlot(b, (first+100)%200, keyPage(wr(0, 9)))
		for i := range 6 {
			copy(b[512*(2+i):], bytes.Repeat([]byte{byte(i + 1)}, 512))
		}
		wantFinds(t, "forward", b, c, 2)
		wantDump(t, "forward", b, c, 2, want)
		b = imageOf(p, first+2, -1)
		wantFinds(t, "backward", b, c, 2)
		wantDump(t, "backward", b, c, 2, want)
	}
	none := imageOf(pages{}, 0, 1)
	setSlot(none, 0, []byte{9})
	wantFinds(t, "a root without pages", none, c, 2)
	wantDump(t, "a root without pages", none, c, 2, state(0, clocks(cl(1), cl(2)), nil))
}

// TestP2003NoClocks: pages, but no page 0: that is told first, and all dots are wrong.
func TestP2003NoClocks(t *testing.T) {
	c := five()
	wantFinds(t, "a key alone", image(pages{5: keyPage(wr(2, 1))}), c, 2, find(FindKind, 0, 0), find(FindDot, 5, 0))
	wantFinds(t, "a hint alone", image(pages{65: hintPage(1, of("g", wr(0, 1)))}), c, 2, find(FindKind, 0, 0))
	wantFinds(t, "the page 99 alone", image(pages{99: hintPage(1, of("g", wr(0, 1)))}), c, 2, find(FindKind, 0, 0), find(FindKind, 99, 0))
	wantFinds(t, "a spoilt page 1", image(pages{1: make([]byte, 2048)}), c, 2, find(FindKind, 0, 0), find(FindPage, 1, 0))
	wantFinds(t, "a spoilt page 0", image(pages{0: make([]byte, 2048)}), c, 2, find(FindPage, 0, 0))
}

// TestP2003Page: the place is that of page.Check, on every page; nothing more is told of it.
func TestP2003Page(t *testing.T) {
	c := five()
	whole := pages{0: clockPage(1, cl(1, sp(2, 1))), 1: keyPage(wr(2, 1)), 64: keyPage(of("a", wr(2, 2))), 65: hintPage(1, of("g", wr(0, 1))), 96: hintPage(1, of("g", wr(0, 2)))}
	for n, b := range whole {
		for _, x := range []struct{ at, place int }{{0, 0}, {2047, 2047}, {1000, 1000}} {
			p := pages{0: whole[0]}
			p[n] = spoilt(b, x.at, 99)
			wantFinds(t, fmt.Sprint("page ", n), image(p), c, 2, find(FindPage, n, x.place))
		}
	}
	// a count of writes, a value's length, a dead write's value, a set's node
	p := keyPage(wr(2, 1, sp(0, 1)))
	for _, x := range []struct {
		at   int
		c    byte
		want int
	}{{1, 0, 1}, {1, 17, 1}, {3, 9, 3}, {4, 8, 4}, {5, 0, 5}, {9, 2, 9}, {9, 1, 10}, {10, 65, 10}, {12, 9, 12}, {13, 8, 13}, {18, 1, 18}} {
		wantFinds(t, fmt.Sprint("the byte ", x.at), image(pages{0: clockPage(1), 1: spoilt(p, x.at, x.c)}), c, 2, find(FindPage, 1, x.want))
	}
	for n := 97; n < 100; n++ {
		wantFinds(t, "a page too far that is spoilt", image(pages{0: clockPage(1), n: spoilt(p, 5, 0)}), c, 2, find(FindPage, n, 5))
	}
}

// TestP2003Kind: a page of each kind at each number.
func TestP2003Kind(t *testing.T) {
	c := five()
	kinds := [][]byte{clockPage(1), keyPage(wr(2, 1)), hintPage(1, of("g", wr(0, 1)))}
	for n := 1; n < 100; n++ {
		for i, b := range kinds {
			var want []api.Finding
			switch {
			case n > 96 || n < 65 && i != 1 || n >= 65 && i != 2:
				want = append(want, find(FindKind, n, 0))
			case i == 1:
				want = append(want, find(FindDot, n, 0))
			}
			wantFinds(t, fmt.Sprintf("kind %d as page %d", i+1, n), image(pages{0: kinds[0], n: b}), c, 2, want...)
		}
	}
	wantFinds(t, "a key as page 0", image(pages{0: kinds[1]}), c, 2, find(FindKind, 0, 0))
	wantFinds(t, "a hint as page 0", image(pages{0: kinds[2], 65: kinds[2]}), c, 2, find(FindKind, 0, 0))
}

// TestP2003Many: pages of a key that are readable count, whatever else is wrong with them; the others don't.
func TestP2003Many(t *testing.T) {
	c := three()
	zero := clockPage(1, cl(0, sp(0, 3), sp(1, 3)))
	k := func(key string, count int) []byte { return keyPage(of(key, wr(1, count))) }
	wantFinds(t, "as many as there may be", image(pages{0: zero, 7: k("a", 1), 9: k("b", 2)}), c, 1)
	wantFinds(t, "one more", image(pages{0: zero, 7: k("a", 1), 9: k("b", 2), 11: k("c", 3)}), c, 1, find(FindMany, 11, 0))
	wantFinds(t, "two more", image(pages{0: zero, 1: k("a", 1), 9: k("b", 2), 11: k("c", 3), 64: keyPage(of("d", wr(0, 1)))}), c, 1, find(FindMany, 11, 0), find(FindMany, 64, 0))
	wantFinds(t, "spoilt ones don't count", image(pages{0: zero, 1: make([]byte, 2048), 2: hintPage(1, wr(1, 1)), 3: zero, 9: k("a", 1), 11: k("b", 2)}), c, 1, find(FindPage, 1, 0), find(FindKind, 2, 0), find(FindKind, 3, 0))
	wantFinds(t, "wrong ones do, and all is told", image(pages{0: zero, 1: keyPage(of("a", wr(7, 1))), 2: k("b", 2), 3: keyPage(of("b", wr(1, 2)), of("b", wr(1, 3)), of("b", wr(2, 101)))}), c, 1,
		find(FindWrite, 1, 0), find(FindMany, 3, 0), find(FindKey, 3, 0), find(FindSiblings, 3, 2), find(FindDot, 3, 0), find(FindWrite, 3, 2))
	h := func(count int) []byte { return hintPage(2, wr(1, count)) }
	wantFinds(t, "hints", image(pages{0: clockPage(1), 65: h(1), 66: h(2), 96: h(2)}), c, 0, find(FindMany, 66, 0), find(FindMany, 96, 0), find(FindHint, 96, 0))
	wantFinds(t, "spoilt hints don't count", image(pages{0: clockPage(1), 65: make([]byte, 2048), 66: k("a", 1), 96: h(2)}), c, 0, find(FindPage, 65, 0), find(FindKind, 66, 0))
	wantFinds(t, "keys are no hints", image(pages{0: zero, 1: k("a", 1), 65: h(2)}), c, 1, find(FindHint, 65, 0))
	c.Hints = 0
	wantFinds(t, "no hints", image(pages{0: clockPage(1), 80: h(1)}), c, 0, find(FindMany, 80, 0))
	c.Keys = 1
	wantFinds(t, "one key", image(pages{0: zero, 1: k("a", 1), 2: k("b", 2)}), c, 1, find(FindMany, 2, 0))
}

// TestP2003Clock: node 2 minds the ranges 1 and 2.
func TestP2003Clock(t *testing.T) {
	c := five()
	for _, x := range []struct {
		what string
		k    api.Clock
		bad  bool
	}{
		{"as it may be", cl(1, sp(0, 2, 4), sp(4, 1000)), false}, {"the other range", cl(2, sp(2, 1)), false}, {"a range that does not prefer the node", cl(0, sp(2, 1)), true}, {"the last one", cl(3, sp(2, 1)), true}, {"no range", cl(4, sp(2, 1)), true}, {"the greatest", cl(15, sp(2, 1)), true},
		{"no dots", cl(1), true}, {"a node that is none", cl(1, sp(0, 1), sp(5, 1)), true}, {"the gap", cl(1, sp(0, 2, 8)), false}, {"beyond it", cl(1, sp(0, 2, 9)), true}, {"a base beyond Count", cl(1, sp(0, 1001)), true}, {"a count beyond it", cl(1, sp(0, 999, 1001)), true}, {"the last count", cl(1, sp(0, 998, 1000)), false},
	} {
		b := image(pages{0: clockPage(1, x.k)})
		if x.bad {
			wantFinds(t, x.what, b, c, 2, find(FindClock, 0, 0))
			wantDump(t, x.what, b, c, 2, state(1, clocks(cl(1), cl(2)), nil))
			continue
		}
		wantFinds(t, x.what, b, c, 2)
	}
	b := image(pages{0: clockPage(6, cl(0, sp(1, 1)), cl(1, sp(1, 1)), cl(2), cl(3), cl(9, sp(1, 1)))})
	wantFinds(t, "several", b, c, 2, find(FindClock, 0, 0), find(FindClock, 0, 2), find(FindClock, 0, 3), find(FindClock, 0, 4))
	wantDump(t, "several", b, c, 2, state(6, clocks(cl(1, sp(1, 1)), cl(2)), nil))
}

// TestP2003Key: node 2 minds k and a, not g.
func TestP2003Key(t *testing.T) {
	c := five()
	zero := clockPage(1, cl(1, sp(2, 9)), cl(2, sp(2, 9)))
	wantFinds(t, "as it may be", image(pages{0: zero, 1: keyPage(wr(2, 1)), 2: keyPage(of("a", wr(2, 2))), 3: keyPage(of("p", wr(2, 1)))}), c, 2)
	wantFinds(t, "another's key", image(pages{0: zero, 1: keyPage(of("g", wr(2, 1)))}), c, 2, find(FindKey, 1, 0), find(FindDot, 1, 0))
	wantFinds(t, "the same key", image(pages{0: zero, 8: keyPage(wr(2, 1)), 9: keyPage(wr(2, 2)), 64: keyPage(wr(2, 3))}), c, 2, find(FindKey, 9, 0), find(FindKey, 64, 0))
	wantFinds(t, "the same key in a page without a right write", image(pages{0: zero, 8: keyPage(wr(7, 1)), 9: keyPage(wr(2, 2))}), c, 2, find(FindWrite, 8, 0), find(FindKey, 9, 0))
	wantFinds(t, "the same key in a page that is spoilt", image(pages{0: zero, 8: spoilt(keyPage(wr(2, 1)), 2000, 1), 9: keyPage(wr(2, 2))}), c, 2, find(FindPage, 8, 2000))
	wantFinds(t, "the same key in a hint", image(pages{0: zero, 8: keyPage(wr(2, 1)), 65: hintPage(4, wr(4, 1))}), c, 2, find(FindHint, 65, 0))
	wantFinds(t, "keys that begin alike", image(pages{0: zero, 8: keyPage(wr(2, 1)), 9: keyPage(of("k\x00", wr(2, 2)))}), c, 2, findsOfRange("k\x00", 9)...)
}

// findsOfRange: what is to be found of a write of a key at node 2, if the key is another's.
func findsOfRange(key string, n int) []api.Finding {
	if plainPrefers(five(), plainRange(five(), key), 2) {
		return nil
	}
	return []api.Finding{find(FindKey, n, 0), find(FindDot, n, 0)}
}

func TestP2003Siblings(t *testing.T) {
	c := five()
	zero := clockPage(1, cl(1, sp(2, 9)))
	var l []api.Write
	for i := range 8 {
		l = append(l, wr(2, i+1))
		var want []api.Finding
		if i >= 3 {
			want = append(want, find(FindSiblings, 4, 3))
		}
		b := image(pages{0: zero, 4: keyPage(l...)})
		wantFinds(t, fmt.Sprint(i+1, " writes"), b, c, 2, want...)
		wantDump(t, fmt.Sprint(i+1, " writes"), b, c, 2, state(1, clocks(cl(1, sp(2, 9)), cl(2)), nil, l[:min(3, len(l))]))
	}
	c.Siblings = 1
	wantFinds(t, "one alone", image(pages{0: zero, 4: keyPage(l[:2]...)}), c, 2, find(FindSiblings, 4, 1))
	l[1].Dot.Node = 7
	wantFinds(t, "wrong ones count", image(pages{0: zero, 4: keyPage(l[:2]...)}), c, 2, find(FindSiblings, 4, 1), find(FindWrite, 4, 1))
}

// TestP2003Write: what a config refuses of a write that a page takes.
func TestP2003Write(t *testing.T) {
	c := five()
	zero := clockPage(1, cl(1, sp(0, 1000), sp(2, 1000)))
	for _, x := range []struct {
		what string
		w    api.Write
		bad  bool
	}{
		{"as it may be", wr(2, 1), false}, {"the last count", wr(2, 1000), false}, {"beyond it", wr(2, 1001), true}, {"a node that is none", wr(5, 1), true}, {"a key of 16 bytes", of(longKey(five(), 1), wr(2, 1)), false}, {"a long value", with(strings.Repeat("v", 64), wr(2, 1)), false}, {"a dead one", gone(wr(2, 1)), false},
		{"a context", wr(2, 1, sp(0, 1), sp(4, 1000)), false}, {"of a node that is none", wr(2, 1, sp(6, 1)), true}, {"at the gap", wr(2, 1, sp(0, 1, 7)), false}, {"beyond it", wr(2, 1, sp(0, 1, 8)), true}, {"a base beyond Count", wr(2, 1, sp(0, 1001)), true}, {"a count beyond it", wr(2, 1, sp(0, 998, 1001)), true},
	} {
		b := image(pages{0: zero, 1: keyPage(x.w)})
		h := image(pages{0: clockPage(1), 65: hintPage(2, x.w)})
		if x.bad {
			wantFinds(t, x.what, b, c, 2, find(FindWrite, 1, 0))
			wantFinds(t, x.what+", a hint", h, c, 1, find(FindWrite, 65, 0))
			wantFinds(t, x.what+", a hint of the owner", h, c, 2, find(FindWrite, 65, 0), find(FindHint, 65, 0))
			continue
		}
		wantFinds(t, x.what, b, c, 2)
		wantFinds(t, x.what+", a hint", h, c, 1)
	}
}

// longKey: one of 16 bytes that lies in a range.
func longKey(c api.Config, rng int) string {
	for i := 0; ; i++ {
		if key := fmt.Sprintf("%016d", i); plainRange(c, key) == rng {
			return key
		}
	}
}

func TestP2003Cover(t *testing.T) {
	c := five()
	zero := clockPage(1, cl(1, sp(0, 9), sp(2, 9)))
	for _, x := range []struct {
		what string
		l    []api.Write
		want []api.Finding
	}{
		{"none", list(wr(0, 1), wr(2, 1)), nil},
		{"a later one covers", list(wr(0, 1), wr(2, 1, sp(0, 1))), []api.Finding{find(FindCover, 1, 0)}},
		{"an earlier one", list(wr(0, 1, sp(2, 1)), wr(2, 1)), []api.Finding{find(FindCover, 1, 1)}},
		{"each the other", list(wr(0, 1, sp(2, 1)), wr(2, 1, sp(0, 1))), []api.Finding{find(FindCover, 1, 0), find(FindCover, 1, 1)}},
		{"one that is covered covers", list(wr(0, 1), wr(0, 2, sp(0, 1)), wr(2, 1, sp(0, 0, 2))), []api.Finding{find(FindCover, 1, 0), find(FindCover, 1, 1)}},
		{"one that is not right covers nothing", list(wr(0, 1), wr(2, 1001, sp(0, 1))), []api.Finding{find(FindWrite, 1, 1)}},
		{"one that is not right is not covered", list(wr(2, 1, sp(0, 5)), wr(2, 1001, sp(0, 1), sp(2, 1))), []api.Finding{find(FindWrite, 1, 1)}},
		{"one whose dot is not known covers", list(wr(0, 1), wr(4, 1, sp(0, 1))), []api.Finding{find(FindCover, 1, 0), find(FindDot, 1, 1)}},
		{"one that is both covered and not known", list(wr(0, 1, sp(4, 1)), wr(4, 1)), []api.Finding{find(FindCover, 1, 1), find(FindDot, 1, 1)}},
		{"a dead one covers", list(wr(0, 1), gone(wr(2, 1, sp(0, 1)))), []api.Finding{find(FindCover, 1, 0)}},
	} {
		wantFinds(t, x.what, image(pages{0: zero, 1: keyPage(x.l...)}), c, 2, x.want...)
	}
	wantFinds(t, "another key covers nothing", image(pages{0: zero, 1: keyPage(wr(0, 1)), 2: keyPage(of("a", wr(2, 1, sp(0, 1))))}), c, 2)
	wantFinds(t, "nor another page", image(pages{0: zero, 1: keyPage(wr(0, 1)), 2: keyPage(wr(2, 1, sp(0, 1)))}), c, 2, find(FindKey, 2, 0))
}

// TestP2003Dot: k and a lie in range 1, p in 2.
func TestP2003Dot(t *testing.T) {
	c := five()
	zero := clockPage(1, cl(1, sp(0, 2, 4), sp(2, 9)), cl(2, sp(0, 9)))
	for _, x := range []struct {
		w   api.Write
		bad bool
	}{{wr(0, 1), false}, {wr(0, 2), false}, {wr(0, 3), true}, {wr(0, 4), false}, {wr(0, 5), true}, {wr(1, 1), true}, {wr(2, 9), false}, {wr(2, 10), true}, {of("p", wr(0, 3)), false}, {of("p", wr(2, 1)), true}} {
		var want []api.Finding
		if x.bad {
			want = append(want, find(FindDot, 9, 0))
		}
		wantFinds(t, show(x.w), image(pages{0: zero, 9: keyPage(x.w)}), c, 2, want...)
	}
	wantFinds(t, "a clock with a finding has no dots", image(pages{0: clockPage(1, cl(1, sp(2, 1001)), cl(2, sp(2, 9))), 1: keyPage(wr(2, 1)), 2: keyPage(of("p", wr(2, 1)))}), c, 2, find(FindClock, 0, 0), find(FindDot, 1, 0))
	wantFinds(t, "the same dot", image(pages{0: zero, 3: keyPage(wr(2, 1), wr(2, 3)), 4: keyPage(of("a", wr(2, 2)), of("a", wr(2, 3))), 5: keyPage(of("d", wr(2, 2)), of("d", wr(2, 4)))}), c, 2, find(FindDot, 4, 1), find(FindDot, 5, 0))
	wantFinds(t, "the same dot of another range", image(pages{0: zero, 3: keyPage(wr(0, 1)), 4: keyPage(of("p", wr(0, 1)))}), c, 2)
	wantFinds(t, "of a page that is one too many, of the same key, covered, not known", image(pages{0: zero, 3: keyPage(wr(0, 3), wr(2, 1), wr(2, 2, sp(2, 1))), 4: keyPage(of("a", wr(0, 3)), of("a", wr(2, 1)), of("a", wr(2, 3)))}), c, 2,
		find(FindDot, 3, 0), find(FindCover, 3, 1), find(FindDot, 4, 0), find(FindDot, 4, 1))
	wantFinds(t, "of a write that is not right", image(pages{0: zero, 3: keyPage(wr(2, 1, sp(7, 1))), 4: keyPage(of("a", wr(2, 1)))}), c, 2, find(FindWrite, 3, 0))
	wantFinds(t, "of a page that is spoilt, or of another kind", image(pages{0: zero, 3: spoilt(keyPage(wr(2, 1)), 99, 1), 4: hintPage(1, of("d", wr(2, 1))), 5: keyPage(of("a", wr(2, 1)))}), c, 2, find(FindPage, 3, 99), find(FindKind, 4, 0))
	wantFinds(t, "of a hint", image(pages{0: zero, 5: keyPage(of("a", wr(2, 1))), 65: hintPage(1, of("g", wr(2, 1)))}), c, 2)
}

// TestP2003Hint: node 2 stands in for 1 and 3 in the ranges 0 (g, h, n) and 3 (b, c, f, m).
func TestP2003Hint(t *testing.T) {
	c := five()
	zero := clockPage(1, cl(1, sp(2, 9)))
	g := of("g", wr(0, 1))
	for _, x := range []struct {
		what  string
		owner int
		w     api.Write
		bad   bool
	}{
		{"as it may be", 1, g, false}, {"the other owner", 3, g, false}, {"the other range", 3, of("b", wr(0, 1)), false}, {"one that the range does not prefer", 0, g, true}, {"another", 4, g, true}, {"me", 2, g, true}, {"no node", 5, g, true}, {"the greatest", 7, g, true},
		{"a range that prefers me and the owner", 4, of("k", wr(0, 1)), true}, {"one that prefers me alone", 1, of("k", wr(0, 1)), true}, {"me, where it prefers me", 2, of("k", wr(0, 1)), true},
	} {
		b := image(pages{0: zero, 70: hintPage(x.owner, x.w)})
		if x.bad {
			wantFinds(t, x.what, b, c, 2, find(FindHint, 70, 0))
			wantDump(t, x.what, b, c, 2, state(1, clocks(cl(1, sp(2, 9)), cl(2)), nil))
			continue
		}
		wantFinds(t, x.what, b, c, 2)
		wantDump(t, x.what, b, c, 2, state(1, clocks(cl(1, sp(2, 9)), cl(2)), hints(hint(x.owner, x.w))))
	}
	h := func(owner int, key string, node, count int) []byte {
		return hintPage(owner, of(key, wr(node, count, sp(4, count))))
	}
	wantFinds(t, "other owners, keys, dots", image(pages{0: zero, 65: h(1, "g", 0, 1), 66: h(3, "g", 0, 1), 67: h(1, "n", 0, 1), 68: h(1, "g", 0, 2)}), c, 2)
	wantFinds(t, "another node", image(pages{0: zero, 65: h(1, "g", 0, 1), 66: h(1, "g", 1, 1)}), c, 2)
	wantFinds(t, "the same", image(pages{0: zero, 65: hintPage(1, g), 67: h(1, "g", 0, 1), 68: h(3, "g", 0, 1), 69: hintPage(1, gone(g))}), c, 2, find(FindHint, 67, 0), find(FindHint, 69, 0))
	wantFinds(t, "the same as one that is not right", image(pages{0: zero, 65: hintPage(1, of("g", wr(0, 1, sp(7, 1)))), 66: hintPage(1, g)}), c, 2, find(FindWrite, 65, 0), find(FindHint, 66, 0))
	wantFinds(t, "the same as one that is spoilt", image(pages{0: zero, 65: spoilt(hintPage(1, g), 1999, 1), 66: hintPage(1, g)}), c, 2, find(FindPage, 65, 1999))
	// range 2, where p lies, prefers 2 and 0: a page of a key has no owner, not even 0
	p := of("p", wr(4, 1))
	wantFinds(t, "a key is no hint", image(pages{0: clockPage(1), 1: keyPage(p), 65: hintPage(0, p)}), c, 1, find(FindKey, 1, 0), find(FindDot, 1, 0))
}
