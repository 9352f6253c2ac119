package store

import (
	"fmt"
	"slices"
	"strings"
	"testing"

	"rookery/api"
	"rookery/disk"
	"rookery/page"
	"rookery/pagefile"
)

// three: the config of the chapter's examples: the order of range 0 is 1 2 0.
func three() api.Config {
	return api.Config{Nodes: 3, Prefer: 2, Ranges: 1, Siblings: 2, Gap: 4, Count: 100, Keys: 2, Hints: 1, Bag: 50}
}

// five: the ranges 0 to 3 prefer 1 3, 2 4, 2 0, 1 3. The keys a d i j k l o lie in 1, p in 2, g h n in 0, b c f m in 3: node 2 minds the first ones, and stands in for the others.
func five() api.Config {
	return api.Config{Nodes: 5, Prefer: 2, Ranges: 4, Siblings: 3, Gap: 6, Count: 1000, Keys: 6, Hints: 4, Bag: 50}
}

// sp: a span: a base and the counts beyond it.
func sp(node, base int, beyond ...int) api.Span {
	s := api.Span{Node: node, Base: base}
	for _, c := range beyond {
		s.Bits |= 1 << (c - base - 1)
	}
	return s
}

func spans(l ...api.Span) []api.Span { return l }

func dot(node, count int) api.Dot { return api.Dot{Node: node, Count: count} }

// wr: a write of k with the value v.
func wr(node, count int, ctx ...api.Span) api.Write {
	return api.Write{Dot: dot(node, count), Key: "k", Value: []byte("v"), Ctx: ctx}
}

func of(key string, w api.Write) api.Write {
	w.Key = key
	return w
}

func with(value string, w api.Write) api.Write {
	w.Value = []byte(value)
	return w
}

func gone(w api.Write) api.Write {
	w.Dead, w.Value = true, nil
	return w
}

func list(l ...api.Write) []api.Write { return l }

func cl(rng int, l ...api.Span) api.Clock { return api.Clock{Range: rng, Set: l} }

func hint(owner int, w api.Write) api.Hint { return api.Hint{Owner: owner, Write: w} }

func newDisk(t *testing.T) *disk.Disk {
	t.Helper()
	d, err := disk.New(pagefile.Sectors)
	if err != api.OK {
		t.Fatalf("a disk: %d", err)
	}
	return d
}

func diskOf(t *testing.T, image []byte) *disk.Disk {
	t.Helper()
	d, err := disk.From(image)
	if err != api.OK {
		t.Fatalf("a disk of %d bytes: %d", len(image), err)
	}
	return d
}

// diskWith: a disk of a page file with these pages, whatever they say.
func diskWith(t *testing.T, l ...api.Change) *disk.Disk {
	t.Helper()
	d := newDisk(t)
	f, err := pagefile.Open(d)
	if err != api.OK {
		t.Fatalf("a page file: %d", err)
	}
	if err := f.Commit(l); err != api.OK {
		t.Fatalf("a commit: %d", err)
	}
	return d
}

func clockChange(t *testing.T, gen int, l ...api.Clock) api.Change {
	t.Helper()
	b, err := page.BuildClocks(gen, l)
	if err != api.OK {
		t.Fatalf("a page of clocks: %d", err)
	}
	return api.Change{Page: 0, Data: b}
}

func keyChange(t *testing.T, n int, l ...api.Write) api.Change {
	t.Helper()
	b, err := page.BuildKey(l)
	if err != api.OK {
		t.Fatalf("a page of a key: %d", err)
	}
	return api.Change{Page: n, Data: b}
}

func hintChange(t *testing.T, n, owner int, w api.Write) api.Change {
	t.Helper()
	b, err := page.BuildHint(hint(owner, w))
	if err != api.OK {
		t.Fatalf("a page of a hint: %d", err)
	}
	return api.Change{Page: n, Data: b}
}

func opened(t *testing.T, d *disk.Disk, c api.Config, me int) *Store {
	t.Helper()
	s, err := Open(d, c, me)
	if s == nil || err != api.OK {
		t.Fatalf("Open: %v, %d; want a store", s != nil, err)
	}
	return s
}

// fresh: a store on a new disk.
func fresh(t *testing.T, c api.Config, me int) (*Store, *disk.Disk) {
	t.Helper()
	d := newDisk(t)
	return opened(t, d, c, me), d
}

// wantNone: Open is refused, and has written nothing.
func wantNone(t *testing.T, what string, d *disk.Disk, c api.Config, me int, want api.Errno) {
	t.Helper()
	wrote := d.Writes()
	if s, err := Open(d, c, me); s != nil || err != want {
		t.Errorf("Open, %s: %v, %d; want nil, %d", what, s != nil, err, want)
	}
	if d.Writes() != wrote {
		t.Errorf("Open, %s: it is refused and has written", what)
	}
}

// show: lists as text; nil and empty are the same.
func show(w api.Write) string {
	return fmt.Sprintf("%d.%d%v%q %v %q", w.Dot.Node, w.Dot.Count, w.Ctx, w.Key, w.Dead, w.Value)
}

func showAll(l []api.Write) string {
	var parts []string
	for _, w := range l {
		parts = append(parts, show(w))
	}
	return "[" + strings.Join(parts, ", ") + "]"
}

func showState(s api.State) string {
	text := fmt.Sprintf("Gen %d, clocks %v", s.Gen, s.Clocks)
	for _, l := range s.Keys {
		text += ", key " + showAll(l)
	}
	for _, h := range s.Hints {
		text += fmt.Sprintf(", for %d %s", h.Owner, show(h.Write))
	}
	return text
}

// state: what See is to tell.
func state(gen int, clocks []api.Clock, hints []api.Hint, keys ...[]api.Write) api.State {
	return api.State{Gen: gen, Keys: keys, Clocks: clocks, Hints: hints}
}

func clocks(l ...api.Clock) []api.Clock { return l }

func hints(l ...api.Hint) []api.Hint { return l }

func wantState(t *testing.T, what string, s *Store, want api.State) {
	t.Helper()
	if got := showState(s.See()); s.Dead() || got != showState(want) {
		t.Errorf("%s: dead %v, %s; want %s", what, s.Dead(), got, showState(want))
	}
}

func wantWrites(t *testing.T, what string, got []api.Write, want ...api.Write) {
	t.Helper()
	if showAll(got) != showAll(want) {
		t.Errorf("%s: %s; want %s", what, showAll(got), showAll(want))
	}
}

func wantClock(t *testing.T, what string, s *Store, rng int, want ...api.Span) {
	t.Helper()
	if got := s.Clock(rng); !slices.Equal(got, want) {
		t.Errorf("%s: the clock of %d is %v; want %v", what, rng, got, want)
	}
}

// writer: what a store and a plain one have in common.
type writer interface {
	Mint(key string, dead bool, value []byte, ctx []api.Span) (api.Write, api.Errno)
	Merge(w api.Write) (bool, api.Errno)
	Take(rng int, set []api.Span, writes []api.Write) (int, api.Errno)
	Hint(owner int, w api.Write) (bool, api.Errno)
	Unhint(owner int, key string, d api.Dot) (bool, api.Errno)
}

// change: a call that may change something, and what it answers.
type change struct {
	what string
	do   func(s writer) (any, api.Errno)
	zero any // beside an error
}

func mint(key string, dead bool, value string, ctx ...api.Span) change {
	return change{fmt.Sprintf("Mint of %q, %v, %q, %v", key, dead, value, ctx), func(s writer) (any, api.Errno) {
		w, err := s.Mint(key, dead, []byte(value), ctx)
		return show(w), err
	}, show(api.Write{})}
}

func merge(w api.Write) change {
	return change{"Merge of " + show(w), func(s writer) (any, api.Errno) { return pair(s.Merge(w)) }, false}
}

func take(rng int, set []api.Span, l ...api.Write) change {
	return change{fmt.Sprintf("Take of %d, %v, %s", rng, set, showAll(l)), func(s writer) (any, api.Errno) { return pair(s.Take(rng, set, l)) }, 0}
}

func keep(owner int, w api.Write) change {
	return change{fmt.Sprintf("Hint for %d of %s", owner, show(w)), func(s writer) (any, api.Errno) { return pair(s.Hint(owner, w)) }, false}
}

func giveUp(owner int, key string, d api.Dot) change {
	return change{fmt.Sprintf("Unhint for %d of %v of %q", owner, d, key), func(s writer) (any, api.Errno) { return pair(s.Unhint(owner, key, d)) }, false}
}

func pair[T any](x T, err api.Errno) (any, api.Errno) { return x, err }

// wantDone: the call answers OK and this, with so many raw writes.
func wantDone(t *testing.T, s *Store, d *disk.Disk, c change, want any, writes int) {
	t.Helper()
	wrote := d.Writes()
	got, err := c.do(s)
	if w, ok := want.(api.Write); ok {
		want = show(w)
	}
	if got != want || err != api.OK || d.Writes() != wrote+writes {
		t.Errorf("%s: %v, %d, %d raw writes; want %v, OK, %d", c.what, got, err, d.Writes()-wrote, want, writes)
	}
}

// wantNo: the call is refused, and nothing has changed.
func wantNo(t *testing.T, s *Store, d *disk.Disk, c change, want api.Errno) {
	t.Helper()
	was, wrote := showState(s.See()), d.Writes()
	got, err := c.do(s)
	if got != c.zero || err != want {
		t.Errorf("%s: %v, %d; want %v, %d", c.what, got, err, c.zero, want)
	}
	if d.Writes() != wrote || s.Dead() || showState(s.See()) != was {
		t.Errorf("%s: it is refused and has changed something: %d raw writes, %s; it was %s", c.what, d.Writes()-wrote, showState(s.See()), was)
	}
}

// wantDown: a dead store does and tells nothing.
func wantDown(t *testing.T, what string, s *Store, d *disk.Disk) {
	t.Helper()
	wrote := d.Writes()
	for _, c := range []change{
		mint("k", false, "v"), mint("", true, "v"), merge(wr(2, 1)), merge(api.Write{}), take(0, nil), take(-1, nil), keep(1, wr(2, 1)), keep(9, api.Write{}), giveUp(1, "k", dot(2, 1)), giveUp(-1, "", api.Dot{}),
	} {
		if got, err := c.do(s); got != c.zero || err != api.ErrDown {
			t.Errorf("%s: %s: %v, %d; want %v, ErrDown", what, c.what, got, err, c.zero)
		}
	}
	if !s.Dead() || showState(s.See()) != showState(api.State{}) {
		t.Errorf("%s: dead %v, %s", what, s.Dead(), showState(s.See()))
	}
	for _, key := range []string{"k", "p", "g", ""} {
		if l := s.Read(key); len(l) > 0 {
			t.Errorf("%s: Read of %q: %s", what, key, showAll(l))
		}
		for owner := range 5 {
			if l := s.Held(owner, key); len(l) > 0 {
				t.Errorf("%s: Held for %d of %q: %s", what, owner, key, showAll(l))
			}
		}
	}
	for rng := range 5 {
		wantClock(t, what, s, rng)
	}
	if m := s.Missing(clocks(cl(0), cl(1, sp(1, 1)), cl(7), cl(-1))); len(m) != 4 || slices.ContainsFunc(m, func(l []api.Write) bool { return len(l) > 0 }) {
		t.Errorf("%s: Missing: %v", what, m)
	}
	if d.Writes() != wrote {
		t.Errorf("%s: a dead store has written", what)
	}
}

// pagesOf: what the disk's page file has.
func pagesOf(t *testing.T, d *disk.Disk) map[int]string {
	t.Helper()
	f, err := pagefile.Open(d)
	if err != api.OK {
		t.Fatalf("the page file: %d", err)
	}
	pages := map[int]string{}
	for _, n := range f.Pages() {
		b, _ := f.Page(n)
		pages[n] = string(b)
	}
	return pages
}

// wantPages: the disk's page file has just these.
func wantPages(t *testing.T, what string, d *disk.Disk, l ...api.Change) {
	t.Helper()
	got := pagesOf(t, d)
	if len(got) != len(l) {
		t.Errorf("%s: %d pages; want %d", what, len(got), len(l))
	}
	for _, c := range l {
		if got[c.Page] != string(c.Data) {
			t.Errorf("%s: page %d is another one", what, c.Page)
		}
	}
}
