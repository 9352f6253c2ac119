package store

import (
	"encoding/binary"
	"fmt"
	"math"
	"slices"
	"strings"
	"testing"

	"rookery/api"
	"rookery/disk"
	"rookery/pagefile"
)

// TestP901Pages: what stands in which page behind each call.
func TestP901Pages(t *testing.T) {
	s, d := fresh(t, five(), 2)
	wantPages(t, "Open", d, clockChange(t, 1))
	wantDone(t, s, d, mint("k", false, "v"), wr(2, 1), 9)
	wantPages(t, "the first key", d, clockChange(t, 1, cl(1, sp(2, 1))), keyChange(t, 1, wr(2, 1)))
	wantDone(t, s, d, mint("p", false, "v"), of("p", wr(2, 1)), 9)
	p := keyChange(t, 2, of("p", wr(2, 1)))
	wantPages(t, "another range", d, clockChange(t, 1, cl(1, sp(2, 1)), cl(2, sp(2, 1))), keyChange(t, 1, wr(2, 1)), p)
	wantDone(t, s, d, merge(wr(0, 3, sp(2, 1))), true, 9)
	k := keyChange(t, 1, wr(0, 3, sp(2, 1)))
	zero := clockChange(t, 1, cl(1, sp(0, 0, 3), sp(2, 1)), cl(2, sp(2, 1)))
	wantPages(t, "a key keeps its page", d, zero, k, p)
	wantDone(t, s, d, keep(3, of("g", wr(1, 1))), true, 5)
	wantDone(t, s, d, keep(1, of("g", wr(1, 1))), true, 5)
	wantDone(t, s, d, keep(1, of("b", wr(4, 9))), true, 5)
	one, three := hintChange(t, 65, 3, of("g", wr(1, 1))), hintChange(t, 67, 1, of("b", wr(4, 9)))
	wantPages(t, "hints", d, zero, k, p, one, hintChange(t, 66, 1, of("g", wr(1, 1))), three)
	wantDone(t, s, d, giveUp(1, "g", dot(1, 1)), true, 1)
	wantPages(t, "a hint goes", d, zero, k, p, one, three)
	wantDone(t, s, d, keep(3, of("b", wr(4, 9))), true, 5)
	wantPages(t, "the least page that there is not", d, zero, k, p, one, hintChange(t, 66, 3, of("b", wr(4, 9))), three)
	opened(t, d, five(), 2)
	wantPages(t, "Open again", d, clockChange(t, 2, cl(1, sp(0, 0, 3), sp(2, 1)), cl(2, sp(2, 1))), k, p, one, hintChange(t, 66, 3, of("b", wr(4, 9))), three)
}

// TestP901LeastPages: new keys go between those that are there, and each keeps its page.
func TestP901LeastPages(t *testing.T) {
	c := five()
	zero := clockChange(t, 1, cl(1, sp(4, 3)))
	d := diskWith(t, zero, keyChange(t, 2, of("a", wr(4, 1))), keyChange(t, 5, of("d", wr(4, 2))), keyChange(t, 64, of("j", wr(4, 3))), hintChange(t, 66, 1, of("g", wr(1, 1))), hintChange(t, 96, 1, of("h", wr(1, 2))))
	s := opened(t, d, c, 2)
	wantDone(t, s, d, mint("k", false, "v"), wr(2, 1), 9)
	wantDone(t, s, d, take(1, spans(sp(2, 3)), of("o", wr(2, 2)), of("i", wr(2, 3))), 2, 13)
	wantDone(t, s, d, merge(of("d", wr(2, 4, sp(4, 2)))), true, 9)
	wantDone(t, s, d, keep(1, of("n", wr(1, 3))), true, 5)
	wantDone(t, s, d, keep(3, of("n", wr(1, 3))), true, 5)
	wantPages(t, "between the others", d, clockChange(t, 2, cl(1, sp(2, 4), sp(4, 3))),
		keyChange(t, 1, wr(2, 1)), keyChange(t, 2, of("a", wr(4, 1))), keyChange(t, 3, of("o", wr(2, 2))), keyChange(t, 4, of("i", wr(2, 3))), keyChange(t, 5, of("d", wr(2, 4, sp(4, 2)))), keyChange(t, 64, of("j", wr(4, 3))),
		hintChange(t, 65, 1, of("n", wr(1, 3))), hintChange(t, 66, 1, of("g", wr(1, 1))), hintChange(t, 67, 3, of("n", wr(1, 3))), hintChange(t, 96, 1, of("h", wr(1, 2))))
}

// widest: as much as a node may store, of nodes of which each range prefers two: node 0 minds some ranges and not others.
func widest() api.Config {
	return api.Config{Nodes: 8, Prefer: 2, Ranges: 16, Siblings: 8, Gap: 64, Count: api.MaxCount, Keys: 64, Hints: 32, Bag: 256}
}

// TestP901Full: all pages of keys and of hints, and a page 0 of every range.
func TestP901Full(t *testing.T) {
	c := widest()
	s, d := fresh(t, c, 2)
	keys, held := 0, 0
	for i := 0; keys < 65 || held < 33; i++ {
		key := fmt.Sprint("key ", i)
		rng := s.rules.Ring.Range(key)
		first, _ := s.rules.Ring.Preferred(rng, 2)
		if slices.Contains(first, 2) && keys < 65 {
			keys++
			wantLast(t, s, d, mint(key, false, key), keys == 65, api.ErrKeys)
		} else if !slices.Contains(first, 2) && held < 33 {
			held++
			wantLast(t, s, d, keep(first[1], of(key, wr(1, 1))), held == 33, api.ErrHints)
		}
	}
	pages := pagesOf(t, d)
	for n := range 100 {
		if _, there := pages[n]; there != (n < 97) {
			t.Errorf("page %d: %v", n, there)
		}
	}
	x := opened(t, d, c, 2)
	was := s.See()
	was.Gen = 2
	wantState(t, "Open", x, was)
	wantNo(t, x, d, mint("key", false, ""), refusalOf(x, "key"))
}

func refusalOf(s *Store, key string) api.Errno {
	if s.rules.Minds(key) {
		return api.ErrKeys
	}
	return api.ErrMine
}

// wantLast: the call has no error, unless it is the one past the limit.
func wantLast(t *testing.T, s *Store, d *disk.Disk, c change, past bool, want api.Errno) {
	t.Helper()
	if past {
		wantNo(t, s, d, c, want)
		return
	}
	if _, err := c.do(s); err != api.OK {
		t.Fatalf("%s: %d", c.what, err)
	}
}

func TestP902Errors(t *testing.T) {
	wrong := three()
	wrong.Gap = 0
	off := newDisk(t)
	off.Off()
	wantNone(t, "no right config", off, wrong, 3, api.ErrArg)
	wantNone(t, "a zero config", newDisk(t), api.Config{}, 0, api.ErrArg)
	for _, me := range []int{3, -1, 8, math.MaxInt, math.MinInt} {
		wantNone(t, fmt.Sprint("node ", me), off, three(), me, api.ErrNode)
		wantNone(t, fmt.Sprint("node ", me), newDisk(t), three(), me, api.ErrNode)
	}
	wantNone(t, "the disk is off", off, three(), 1, api.ErrDown)
	small, _ := disk.New(807)
	wantNone(t, "a small disk", small, three(), 1, api.ErrRoot)
	torn := newDisk(t)
	for i := range 2 {
		torn.Write(i, slices.Repeat([]byte{9}, 512))
	}
	wantNone(t, "no good root", torn, three(), 1, api.ErrRoot)
	spoilt := diskWith(t, clockChange(t, 1))
	spoilt.Write(8, slices.Repeat([]byte{9}, 512))
	wantNone(t, "a spoilt page", spoilt, three(), 1, api.ErrPage)
	wide, _ := disk.New(809)
	if s, err := Open(wide, three(), 1); s == nil || err != api.OK {
		t.Errorf("a wider disk: %d", err)
	}
}

// TestP902EveryConfig: each number of the config is looked at.
func TestP902EveryConfig(t *testing.T) {
	edit := []func(c *api.Config){
		func(c *api.Config) { c.Nodes = 9 }, func(c *api.Config) { c.Prefer = 4 }, func(c *api.Config) { c.Ranges = 17 }, func(c *api.Config) { c.Siblings = 9 }, func(c *api.Config) { c.Gap = 65 }, func(c *api.Config) { c.Count = 0 }, func(c *api.Config) { c.Keys = 65 }, func(c *api.Config) { c.Hints = 33 }, func(c *api.Config) { c.Bag = 0 },
	}
	for i, f := range edit {
		c := three()
		f(&c)
		wantNone(t, fmt.Sprint("config ", i), newDisk(t), c, 1, api.ErrArg)
	}
}

const top48 = 281474976710655

func TestP902Gen(t *testing.T) {
	c := three()
	for _, gen := range []int{0, 1, 255, 1 << 32, top48 - 2, top48 - 1} {
		d := diskWith(t, clockChange(t, gen))
		wantState(t, "Open", opened(t, d, c, 1), state(gen+1, clocks(cl(0)), nil))
		wantPages(t, "Open", d, clockChange(t, gen+1))
	}
	d := diskWith(t, clockChange(t, top48-1, cl(0, sp(1, 1))))
	opened(t, d, c, 1)
	wantNone(t, "Gen at its bound", d, c, 1, api.ErrCount)
	wantNone(t, "pages that don't fit come first", d, c, 0, api.ErrPage)
	wantNone(t, "Gen at its bound", diskWith(t, clockChange(t, top48)), c, 1, api.ErrCount)
}

// TestP902OneCommit: page 0 alone, four sectors and a root; the others are as they were.
func TestP902OneCommit(t *testing.T) {
	l := []api.Change{clockChange(t, 7, cl(0, sp(1, 2, 4), sp(2, 1))), keyChange(t, 9, wr(1, 1), wr(1, 4))}
	d := diskWith(t, l...)
	wrote := d.Writes()
	for gen := range 4 {
		s := opened(t, d, three(), 1)
		wantState(t, "Open", s, state(8+gen, clocks(cl(0, sp(1, 2, 4), sp(2, 1))), nil, list(wr(1, 1), wr(1, 4))))
		wantPages(t, "Open", d, clockChange(t, 8+gen, cl(0, sp(1, 2, 4), sp(2, 1))), l[1])
		wrote += 5
		if d.Writes() != wrote {
			t.Errorf("Open: %d raw writes; want %d", d.Writes(), wrote)
		}
	}
	f, _ := pagefile.Open(d)
	if f.Seq() != 5 {
		t.Errorf("%d commits; want 5", f.Seq())
	}
}

// TestP902TheCommit: its errors.
func TestP902TheCommit(t *testing.T) {
	d := diskWith(t, clockChange(t, 7, cl(0, sp(1, 2))))
	for after := range 5 {
		d.Arm(after, 100)
		if s, err := Open(d, three(), 1); s != nil || err != api.ErrDown {
			t.Errorf("the power fails behind %d raw writes: %v, %d", after, s != nil, err)
		}
		d.On()
	}
	wantState(t, "behind it", opened(t, d, three(), 1), state(8, clocks(cl(0, sp(1, 2))), nil))
	last := lastSeq(t, clockChange(t, 7))
	wantNone(t, "the last commit was", last, three(), 1, api.ErrRoot)
	last = lastSeq(t, clockChange(t, top48))
	wantNone(t, "ErrCount comes first", last, three(), 1, api.ErrCount)
}

// lastSeq: a disk with one page, whose root has the greatest number.
func lastSeq(t *testing.T, c api.Change) *disk.Disk {
	t.Helper()
	d := diskWith(t, c)
	b, _ := d.Read(1)
	binary.LittleEndian.PutUint64(b[1:], 1<<62)
	binary.LittleEndian.PutUint64(b[504:], 1<<62)
	d.Write(0, b)
	return d
}

// fit: pages, and whether they fit.
type fit struct {
	what string
	fits bool
	l    []api.Change
}

func wantFits(t *testing.T, c api.Config, me int, rows []fit) {
	t.Helper()
	for _, row := range rows {
		d := diskWith(t, row.l...)
		if !row.fits {
			wantNone(t, row.what, d, c, me, api.ErrPage)
			continue
		}
		if s, err := Open(d, c, me); s == nil || err != api.OK {
			t.Errorf("%s: %d; want OK", row.what, err)
		}
	}
}

func pages(l ...api.Change) []api.Change { return l }

func TestP903Clocks(t *testing.T) {
	wantFits(t, three(), 1, []fit{
		{"none at all", true, nil},
		{"no clock", true, pages(clockChange(t, 1))},
		{"no page 0", false, pages(keyChange(t, 1, wr(1, 1)))},
		{"no page 0, a hint", false, pages(hintChange(t, 65, 2, wr(1, 1)))},
		{"page 0 of a key", false, pages(keyChange(t, 0, wr(1, 1)))},
		{"page 0 of a hint", false, pages(hintChange(t, 0, 2, wr(1, 1)))},
		{"a clock", true, pages(clockChange(t, 1, cl(0, sp(0, 100), sp(1, 96, 100), sp(2, 0, 2, 3, 4))))},
		{"a clock without dots", false, pages(clockChange(t, 1, cl(0)))},
		{"a range that is none", false, pages(clockChange(t, 1, cl(1, sp(1, 1))))},
		{"a node that is none", false, pages(clockChange(t, 1, cl(0, sp(1, 1), sp(3, 1))))},
		{"beyond the gap", false, pages(clockChange(t, 1, cl(0, sp(1, 1, 6))))},
		{"at the gap", true, pages(clockChange(t, 1, cl(0, sp(1, 1, 5))))},
		{"a base above Count", false, pages(clockChange(t, 1, cl(0, sp(1, 101))))},
		{"a bit above Count", false, pages(clockChange(t, 1, cl(0, sp(1, 97, 99, 101))))},
	})
	wantFits(t, five(), 2, []fit{
		{"both ranges", true, pages(clockChange(t, 1, cl(1, sp(1, 1)), cl(2, sp(4, 1000))))},
		{"one of another node's", false, pages(clockChange(t, 1, cl(0, sp(1, 1))))},
		{"one of another node's behind", false, pages(clockChange(t, 1, cl(1, sp(1, 1)), cl(3, sp(1, 1))))},
		{"the second without dots", false, pages(clockChange(t, 1, cl(1, sp(1, 1)), cl(2)))},
		{"the last range of all", false, pages(clockChange(t, 1, cl(15, sp(1, 1))))},
	})
}

func TestP903Keys(t *testing.T) {
	zero := clockChange(t, 1, cl(0, sp(0, 100), sp(1, 3), sp(2, 0, 2)))
	deep := wr(0, 9, sp(1, 3), sp(2, 0, 2, 4))
	long := strings.Repeat("x", 16)
	wantFits(t, three(), 1, []fit{
		{"a key", true, pages(zero, keyChange(t, 1, wr(1, 1)))},
		{"pages 1 and 64", true, pages(zero, keyChange(t, 64, of("j", wr(1, 1))), keyChange(t, 1, wr(1, 2)))},
		{"the longest", true, pages(zero, keyChange(t, 7, of(long, with(strings.Repeat("v", 64), wr(1, 1)))))},
		{"a dead one", true, pages(zero, keyChange(t, 7, gone(wr(1, 1))))},
		{"clocks at 1", false, pages(zero, api.Change{Page: 1, Data: zero.Data})},
		{"a hint at 64", false, pages(zero, hintChange(t, 64, 2, wr(1, 1)))},
		{"more than Keys", false, pages(zero, keyChange(t, 1, wr(1, 1)), keyChange(t, 2, of("j", wr(1, 2))), keyChange(t, 3, of("i", wr(1, 3))))},
		{"a key twice", false, pages(zero, keyChange(t, 1, wr(1, 1)), keyChange(t, 2, wr(1, 2)))},
		{"Siblings", true, pages(zero, keyChange(t, 1, wr(0, 1), wr(1, 2)))},
		{"more than Siblings", false, pages(zero, keyChange(t, 1, wr(0, 1), wr(1, 2), wr(1, 3)))},
		{"a context at its bounds", true, pages(zero, keyChange(t, 1, deep))},
		{"a context beyond the gap", false, pages(zero, keyChange(t, 1, wr(0, 9, sp(1, 3, 8))))},
		{"a context of a node that is none", false, pages(zero, keyChange(t, 1, wr(0, 9, sp(3, 1))))},
		{"a context above Count", false, pages(zero, keyChange(t, 1, wr(0, 9, sp(1, 101))))},
		{"a context at Count", true, pages(zero, keyChange(t, 1, wr(0, 9, sp(1, 100))))},
		{"a count at Count", true, pages(zero, keyChange(t, 1, wr(0, 100)))},
		{"one covers another", false, pages(zero, keyChange(t, 1, wr(0, 1), wr(1, 2, sp(0, 1))))},
		{"one covers another that stands behind", false, pages(zero, keyChange(t, 1, wr(0, 1, sp(1, 2)), wr(1, 2)))},
		{"each covers the other", false, pages(zero, keyChange(t, 1, wr(0, 1, sp(1, 2)), wr(1, 2, sp(0, 1))))},
		{"one of another key in its context", true, pages(zero, keyChange(t, 1, wr(0, 1)), keyChange(t, 2, of("j", wr(1, 2, sp(0, 1)))))},
		{"a dot beyond the clock", false, pages(zero, keyChange(t, 1, wr(1, 4)))},
		{"a dot in the clock's hole", false, pages(zero, keyChange(t, 1, wr(2, 1)))},
		{"a dot of the clock's bits", true, pages(zero, keyChange(t, 1, wr(2, 2)))},
		{"the second's dot beyond the clock", false, pages(zero, keyChange(t, 1, wr(1, 2), wr(2, 3)))},
		{"a dot of two keys", false, pages(zero, keyChange(t, 1, wr(1, 2)), keyChange(t, 9, of("j", wr(1, 2))))},
		{"a dot of two keys, among others", false, pages(zero, keyChange(t, 1, wr(0, 2), wr(1, 2)), keyChange(t, 9, of("j", wr(1, 1)), of("j", wr(1, 2))))},
		{"no clock", false, pages(clockChange(t, 1), keyChange(t, 1, wr(1, 2)))},
	})
	wantFits(t, three(), 0, []fit{{"a stand-in's", false, pages(clockChange(t, 1), keyChange(t, 1, wr(1, 1)))}})
	small := three()
	small.Count = 50
	wantFits(t, small, 1, []fit{{"a count above Count", false, pages(clockChange(t, 1, cl(0, sp(0, 50))), keyChange(t, 1, wr(0, 51)))}})
}

// TestP903Ranges: each key's dots by its own range.
func TestP903Ranges(t *testing.T) {
	zero := clockChange(t, 1, cl(1, sp(1, 3)), cl(2, sp(2, 2)))
	wantFits(t, five(), 2, []fit{
		{"a key of each", true, pages(zero, keyChange(t, 1, wr(1, 3)), keyChange(t, 2, of("p", wr(2, 2))))},
		{"a dot of the other range's clock", false, pages(zero, keyChange(t, 1, wr(2, 1)))},
		{"a dot of the other range's clock", false, pages(zero, keyChange(t, 1, of("p", wr(1, 1))))},
		{"a key of another node's range", false, pages(zero, keyChange(t, 1, of("g", wr(1, 1))))},
		{"a dot of a node that is none", false, pages(zero, keyChange(t, 1, wr(5, 1)))},
		{"a dot in two ranges", true, pages(clockChange(t, 1, cl(1, sp(1, 1)), cl(2, sp(1, 1))), keyChange(t, 3, wr(1, 1)), keyChange(t, 4, of("p", wr(1, 1))))},
		{"a dot twice in one", false, pages(clockChange(t, 1, cl(1, sp(1, 1)), cl(2, sp(1, 1))), keyChange(t, 3, wr(1, 1)), keyChange(t, 4, of("a", wr(1, 1))))},
	})
}

func TestP903Hints(t *testing.T) {
	zero := clockChange(t, 1)
	g := of("g", wr(1, 1))
	full := pages(zero, hintChange(t, 65, 1, g), hintChange(t, 66, 3, g), hintChange(t, 95, 1, of("g", wr(1, 2))), hintChange(t, 96, 1, of("b", wr(1, 1))))
	wantFits(t, five(), 2, []fit{
		{"one", true, pages(zero, hintChange(t, 65, 3, g))},
		{"one without page 0", false, pages(hintChange(t, 65, 3, g))},
		{"as many as Hints, alike but for one thing", true, full},
		{"one more", false, append(full, hintChange(t, 70, 1, of("n", wr(1, 1))))},
		{"clocks at 65", false, pages(zero, api.Change{Page: 65, Data: zero.Data})},
		{"a key at 96", false, pages(zero, keyChange(t, 96, wr(1, 1)))},
		{"a hint at 97", false, pages(zero, hintChange(t, 97, 3, g))},
		{"a key at 97", false, pages(clockChange(t, 1, cl(1, sp(1, 1))), keyChange(t, 97, wr(1, 1)))},
		{"clocks at 97", false, pages(zero, api.Change{Page: 97, Data: zero.Data})},
		{"a hint at 99", false, pages(zero, hintChange(t, 99, 3, g))},
		{"an owner that is no node", false, pages(zero, hintChange(t, 65, 5, g))},
		{"the owner is me", false, pages(zero, hintChange(t, 65, 2, g))},
		{"the owner is me, of a key of mine", false, pages(zero, hintChange(t, 65, 2, wr(1, 1)))},
		{"a range that prefers me too", false, pages(zero, hintChange(t, 65, 4, wr(1, 1)))},
		{"an owner that stands in", false, pages(zero, hintChange(t, 65, 0, g))},
		{"twice", false, pages(zero, hintChange(t, 65, 3, g), hintChange(t, 70, 3, with("other", g)))},
		{"a count above Count", false, pages(zero, hintChange(t, 65, 3, of("g", wr(1, 1001))))},
		{"a count at Count", true, pages(zero, hintChange(t, 65, 3, of("g", wr(1, 1000))))},
		{"a dot of a node that is none", false, pages(zero, hintChange(t, 65, 3, of("g", wr(5, 1))))},
		{"a context beyond the gap", false, pages(zero, hintChange(t, 65, 3, of("g", wr(1, 9, sp(1, 1, 8)))))},
		{"a context at the gap", true, pages(zero, hintChange(t, 65, 3, of("g", wr(1, 9, sp(1, 1, 7)))))},
		{"a context of a node that is none", false, pages(zero, hintChange(t, 65, 3, of("g", wr(1, 9, sp(5, 1)))))},
	})
	none := five()
	none.Hints = 0
	wantFits(t, none, 2, []fit{{"Hints is 0", false, pages(zero, hintChange(t, 65, 3, g))}, {"Hints is 0", true, pages(zero)}})
}

// TestP903Found: what fits is what is told.
func TestP903Found(t *testing.T) {
	g, k, j := of("g", gone(wr(1, 1, sp(0, 2)))), wr(1, 3, sp(4, 0, 2)), of("j", wr(4, 5))
	d := diskWith(t, clockChange(t, 41, cl(1, sp(1, 3), sp(4, 1, 5))), keyChange(t, 30, k), keyChange(t, 40, of("j", wr(1, 2)), j), hintChange(t, 90, 3, g), hintChange(t, 91, 1, g))
	wantState(t, "Open", opened(t, d, five(), 2), state(42, clocks(cl(1, sp(1, 3), sp(4, 1, 5)), cl(2)), hints(hint(1, g), hint(3, g)), list(of("j", wr(1, 2)), j), list(k)))
}

// TestP904Off: each call that writes finds the disk off, ahead of all else; those that look don't.
func TestP904Off(t *testing.T) {
	calls := []change{
		mint("k", false, "v"), mint("", true, "v"), merge(wr(1, 1)), merge(wr(1, 9)), merge(api.Write{}), take(1, nil), take(9, nil), keep(3, of("g", wr(1, 1))), keep(3, of("g", wr(1, 2))), keep(9, api.Write{}), giveUp(3, "g", dot(1, 1)), giveUp(9, "", api.Dot{}),
	}
	for _, c := range calls {
		s, d := fresh(t, five(), 2)
		wantDone(t, s, d, merge(wr(1, 1)), true, 9)
		wantDone(t, s, d, keep(3, of("g", wr(1, 1))), true, 5)
		d.Off()
		want := state(1, clocks(cl(1, sp(1, 1)), cl(2)), hints(hint(3, of("g", wr(1, 1)))), list(wr(1, 1)))
		wantState(t, "off, and not found yet", s, want)
		wantWrites(t, "Read", s.Read("k"), wr(1, 1))
		wantWrites(t, "Held", s.Held(3, "g"), of("g", wr(1, 1)))
		wantClock(t, "Clock", s, 1, sp(1, 1))
		wantWrites(t, "Missing", s.Missing(clocks(cl(1)))[0], wr(1, 1))
		if got, err := c.do(s); got != c.zero || err != api.ErrDown {
			t.Errorf("%s, the disk is off: %v, %d; want %v, ErrDown", c.what, got, err, c.zero)
		}
		wantDown(t, c.what, s, d)
		d.On()
		wantDown(t, c.what+", on again", s, d)
		want.Gen = 2
		wantState(t, "another store", opened(t, d, five(), 2), want)
	}
}

// TestP904NotFound: a disk that was off between two calls.
func TestP904NotFound(t *testing.T) {
	s, d := fresh(t, three(), 1)
	d.Off()
	s.See()
	s.Missing(clocks(cl(0)))
	d.On()
	wantDone(t, s, d, mint("k", false, "v"), wr(1, 1), 9)
	if s.Dead() {
		t.Error("nobody has found the disk off")
	}
}

// TestP904TheCommit: one that answers ErrDown, at each of its raw writes, of each call.
func TestP904TheCommit(t *testing.T) {
	for _, c := range []struct {
		change
		writes int
	}{
		{mint("k", false, "v"), 9}, {mint("p", false, "v"), 9}, {merge(wr(1, 1)), 9}, {take(1, spans(sp(1, 1))), 5}, {take(1, spans(sp(1, 2)), wr(1, 1), of("a", wr(1, 2))), 13}, {keep(3, of("g", wr(1, 2))), 5}, {giveUp(3, "g", dot(1, 1)), 1},
	} {
		for after := range c.writes + 1 {
			s, d := fresh(t, five(), 2)
			wantDone(t, s, d, keep(3, of("g", wr(1, 1))), true, 5)
			d.Arm(after, 30)
			got, err := c.do(s)
			if after == c.writes {
				if err != api.OK || s.Dead() {
					t.Errorf("%s: %d, dead %v", c.what, err, s.Dead())
				}
				continue
			}
			if got != c.zero || err != api.ErrDown {
				t.Errorf("%s, behind %d raw writes: %v, %d; want %v, ErrDown", c.what, after, got, err, c.zero)
			}
			wantDown(t, c.what, s, d)
		}
	}
}
