package store

import (
	"math/rand"
	"slices"
	"strings"
	"testing"

	"rookery/api"
	"rookery/disk"
)

func oneOf[T any](r *rand.Rand, l ...T) T { return l[r.Intn(len(l))] }

// anySet: a set, mostly of the config.
func anySet(r *rand.Rand, c api.Config) []api.Span {
	var l []api.Span
	for node := range c.Nodes {
		if r.Intn(3) > 0 {
			continue
		}
		x := sp(node, oneOf(r, 0, 1, 1, 2, 3, r.Intn(12)))
		if r.Intn(2) == 0 {
			x.Bits = uint64(r.Intn(1<<min(c.Gap, 6))) &^ 1
		}
		if x != sp(node, 0) {
			l = append(l, x)
		}
	}
	if r.Intn(25) == 0 {
		l = append(l, oneOf(r, sp(c.Nodes, 1), sp(0, 1), sp(c.Nodes-1, c.Count+1), api.Span{Node: c.Nodes - 1, Bits: 1 << c.Gap}, api.Span{Node: 7, Base: -1}))
	}
	return l
}

func anyKey(r *rand.Rand) string {
	if r.Intn(30) == 0 {
		return oneOf(r, "", strings.Repeat("x", 16), strings.Repeat("x", 17), "\x00", "é")
	}
	return string(rune('a' + r.Intn(16)))
}

func anyValue(r *rand.Rand) string {
	if r.Intn(30) == 0 {
		return strings.Repeat("v", 63+r.Intn(3))
	}
	return oneOf(r, "", "v", "w", "xyz")
}

func anyDot(r *rand.Rand, c api.Config) api.Dot {
	if r.Intn(30) == 0 {
		return oneOf(r, dot(c.Nodes, 1), dot(-1, 1), dot(0, 0), dot(0, c.Count), dot(0, c.Count+1))
	}
	return dot(r.Intn(c.Nodes), 1+r.Intn(oneOf(r, 3, 9, 20)))
}

func anyWrite(r *rand.Rand, c api.Config) api.Write {
	w := api.Write{Dot: anyDot(r, c), Key: anyKey(r), Dead: r.Intn(6) == 0, Ctx: anySet(r, c)}
	if !w.Dead || r.Intn(9) == 0 {
		w.Value = []byte(anyValue(r))
	}
	// its own dot is seldom in it
	if have, ok := set(w.Ctx, c.Gap, c.Nodes, c.Count); ok && have[w.Dot] && r.Intn(10) > 0 {
		w.Ctx = nil
	}
	return w
}

// anyShipment: mostly of keys of the range, by rising dots that the set has.
func anyShipment(r *rand.Rand, c api.Config, me int) (int, []api.Span, []api.Write) {
	p := newPlain(c, me)
	rng, set := r.Intn(c.Ranges+2)-1, anySet(r, c)
	if r.Intn(4) > 0 && len(p.known) > 0 {
		rng = oneOf(r, p.clockList()...).Range
	}
	if r.Intn(12) == 0 {
		return rng, set, []api.Write{anyWrite(r, c), anyWrite(r, c)}
	}
	var l []api.Write
	have, _ := p.set(set)
	for _, d := range someDots(r, have) {
		w := anyWrite(r, c)
		w.Dot = d
		if ctx, _ := p.set(w.Ctx); ctx[d] {
			w.Ctx = nil
		}
		if r.Intn(40) == 0 || p.right(w) && p.rangeOf(w.Key) == rng {
			l = append(l, w)
		}
	}
	return rng, set, l
}

// someDots: by rising dots.
func someDots(r *rand.Rand, have dots) []api.Dot {
	var l []api.Dot
	for node := range 8 {
		for c := range have.greatest(node) {
			if d := dot(node, c+1); have[d] && r.Intn(2) == 0 {
				l = append(l, d)
			}
		}
	}
	return l
}

func anyCall(r *rand.Rand, c api.Config, me int) change {
	switch r.Intn(10) {
	case 0, 1:
		return mint(anyKey(r), r.Intn(6) == 0, oneOf(r, "", anyValue(r)), anySet(r, c)...)
	case 2, 3, 4:
		return merge(anyWrite(r, c))
	case 5, 6:
		rng, set, l := anyShipment(r, c, me)
		return take(rng, set, l...)
	case 7, 8:
		return keep(r.Intn(c.Nodes+2)-1, anyWrite(r, c))
	}
	return giveUp(r.Intn(c.Nodes), anyKey(r), dot(r.Intn(c.Nodes), 1+r.Intn(3)))
}

// wantAlike: a store and a plain one tell the same, by all calls that look.
func wantAlike(t *testing.T, r *rand.Rand, s *Store, p *plain) {
	t.Helper()
	wantState(t, "See", s, p.see())
	for _, key := range []string{anyKey(r), anyKey(r)} {
		wantWrites(t, "Read of "+key, s.Read(key), p.keys[key]...)
		owner := r.Intn(p.c.Nodes)
		wantWrites(t, "Held of "+key, s.Held(owner, key), p.held(owner, key)...)
	}
	var in []api.Clock
	for range r.Intn(4) {
		in = append(in, cl(r.Intn(p.c.Ranges+2)-1, anySet(r, p.c)...))
	}
	for i, l := range s.Missing(in) {
		wantWrites(t, "Missing", l, p.missing(in[i])...)
	}
	rng := r.Intn(p.c.Ranges+2) - 1
	wantClock(t, "Clock", s, rng, p.known[rng].spans()...)
}

func anyConfig(r *rand.Rand) api.Config {
	c := api.Config{Nodes: 1 + r.Intn(8), Ranges: 1 + r.Intn(oneOf(r, 2, 16)), Siblings: 1 + r.Intn(8), Gap: 1 + r.Intn(oneOf(r, 4, 64)), Count: oneOf(r, 5, 20, 1000), Keys: 1 + r.Intn(oneOf(r, 4, 64)), Hints: r.Intn(oneOf(r, 4, 33)), Bag: 1}
	c.Prefer = 1 + r.Intn(min(5, c.Nodes))
	return c
}

// sameCall plays a call on both, and holds what they answer against each other.
func sameCall(t *testing.T, s *Store, d *disk.Disk, p *plain, wrote int, c change) api.Errno {
	t.Helper()
	got, err := c.do(s)
	want, wantErr := c.do(p)
	if got != want || err != wantErr || d.Writes()-wrote != p.writes {
		t.Fatalf("%s: %v, %d, %d raw writes; want %v, %d, %d", c.what, got, err, d.Writes()-wrote, want, wantErr, p.writes)
	}
	return err
}

// TestAgainstModel: P901 to P911, random calls against a plain store.
func TestAgainstModel(t *testing.T) {
	met := map[api.Errno]int{}
	for seed := range int64(120) {
		r := rand.New(rand.NewSource(seed))
		c := oneOf(r, three(), five(), anyConfig(r), anyConfig(r))
		p := newPlain(c, r.Intn(c.Nodes))
		d := newDisk(t)
		s := opened(t, d, c, p.me)
		for range 100 {
			if r.Intn(25) == 0 {
				s = opened(t, d, c, p.me)
				p.gen++
				p.writes += 5
			}
			met[sameCall(t, s, d, p, 0, anyCall(r, c, p.me))]++
			wantAlike(t, r, s, p)
		}
		wantPages(t, "on the disk", d, p.pageList(t)...)
		if t.Failed() {
			t.Fatalf("seed %d, config %+v, node %d", seed, c, p.me)
		}
	}
	for _, err := range []api.Errno{api.OK, api.ErrArg, api.ErrLong, api.ErrNode, api.ErrSet, api.ErrGap, api.ErrRange, api.ErrKey, api.ErrSiblings, api.ErrWrite, api.ErrKeys, api.ErrHints, api.ErrCount, api.ErrMine} {
		if met[err] < 3 {
			t.Errorf("the error %d was met %d times", err, met[err])
		}
	}
}

// fits: P903, of pages that were read by a view, from the chapter alone.
func (p *plain) fits(l []content903) bool {
	keys, held := 0, 0
	for i, x := range l {
		for _, y := range l[:i] {
			if x.kind == 'k' && y.kind == 'k' && (x.writes[0].Key == y.writes[0].Key || p.rangeOf(x.writes[0].Key) == p.rangeOf(y.writes[0].Key) && shareDot(x.writes, y.writes)) {
				return false
			}
			if x.kind == 'h' && y.kind == 'h' && x.owner == y.owner && x.writes[0].Key == y.writes[0].Key && x.writes[0].Dot == y.writes[0].Dot {
				return false
			}
		}
		switch {
		case x.page >= 1 && x.page <= 64 && x.kind == 'k':
			keys++
			if !p.fitsKey(x.writes) {
				return false
			}
		case x.page >= 65 && x.page <= 96 && x.kind == 'h':
			held++
			rng := p.rangeOf(x.writes[0].Key)
			if !p.right(x.writes[0]) || !p.prefers(rng, x.owner) || p.prefers(rng, p.me) || x.owner == p.me {
				return false
			}
		default:
			return false
		}
	}
	return keys <= p.c.Keys && held <= p.c.Hints
}

func shareDot(a, b []api.Write) bool {
	return slices.ContainsFunc(a, func(w api.Write) bool {
		return slices.ContainsFunc(b, func(u api.Write) bool { return u.Dot == w.Dot })
	})
}

func (p *plain) fitsKey(l []api.Write) bool {
	known, mine := p.known[p.rangeOf(l[0].Key)]
	for _, w := range l {
		if !mine || !p.right(w) || !known[w.Dot] || slices.ContainsFunc(l, func(u api.Write) bool { return p.covers(u, w) }) {
			return false
		}
	}
	return len(l) <= p.c.Siblings
}

// content903: what a page that was laid on a disk has: 'k' siblings, 'h' a hint.
type content903 struct {
	page, kind, owner int
	writes            []api.Write
}

// TestModelFound: P903, random pages that others have written.
func TestModelFound(t *testing.T) {
	took := 0
	for seed := range int64(1500) {
		r := rand.New(rand.NewSource(seed))
		c := oneOf(r, three(), five(), anyConfig(r))
		p := newPlain(c, r.Intn(c.Nodes))
		for rng := range p.known {
			if have, ok := p.set(anySet(r, c)); ok && r.Intn(5) > 0 {
				p.known[rng] = have
			}
		}
		laid, found := anyPages(t, r, p)
		clocks := slices.DeleteFunc(p.clockList(), func(c api.Clock) bool { return len(c.Set) == 0 })
		d := diskWith(t, append(laid, clockChange(t, 1, clocks...))...)
		s, err := Open(d, c, p.me)
		if fits := p.fits(found); fits != (err == api.OK) || !fits && err != api.ErrPage {
			t.Fatalf("seed %d: %d; they fit: %v", seed, err, fits)
		}
		if err == api.OK {
			took++
			wantFound(t, s, found)
		}
	}
	if took < 300 {
		t.Errorf("%d of the disks fit", took)
	}
}

// anyPages: pages of keys and of hints: those that fit more often than by chance.
func anyPages(t *testing.T, r *rand.Rand, p *plain) ([]api.Change, []content903) {
	t.Helper()
	var laid []api.Change
	var found []content903
	for range r.Intn(5) {
		n := oneOf(r, 1+r.Intn(64), 65+r.Intn(32), r.Intn(100))
		if n == 0 || slices.ContainsFunc(found, func(x content903) bool { return x.page == n }) {
			continue
		}
		x := content903{page: n, kind: 'k'}
		w := anyWrite(r, p.c)
		for try := 0; !p.right(w) || try < 8 && !p.suits(n, w); try++ {
			w = anyWrite(r, p.c)
		}
		x.writes = list(w)
		if n >= 65 != (r.Intn(20) == 0) {
			x.kind, x.owner = 'h', r.Intn(p.c.Nodes)
			laid = append(laid, hintChange(t, n, x.owner, w))
		} else {
			more := anyWrite(r, p.c)
			if more.Key = w.Key; p.right(more) && rising(w, more) < 0 {
				x.writes = append(x.writes, more)
			}
			laid = append(laid, keyChange(t, n, x.writes...))
		}
		found = append(found, x)
	}
	return laid, found
}

// suits: whether a write may stand in a page of that number, its range and dot set against the node.
func (p *plain) suits(n int, w api.Write) bool {
	known, mine := p.known[p.rangeOf(w.Key)]
	return mine == (n < 65) && (!mine || known[w.Dot])
}

// wantFound: all that was laid is told, and nothing else.
func wantFound(t *testing.T, s *Store, found []content903) {
	t.Helper()
	st := s.See()
	for _, x := range found {
		if x.kind == 'k' {
			wantWrites(t, "found", s.Read(x.writes[0].Key), x.writes...)
		} else if l := s.Held(x.owner, x.writes[0].Key); !slices.ContainsFunc(l, func(w api.Write) bool { return show(w) == show(x.writes[0]) }) {
			t.Errorf("a hint that was found is not told: %s", show(x.writes[0]))
		}
	}
	if len(st.Keys)+len(st.Hints) != len(found) {
		t.Errorf("%d keys and %d hints; %d pages were found", len(st.Keys), len(st.Hints), len(found))
	}
}
