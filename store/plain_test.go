package store

import (
	"maps"
	"slices"
	"strings"
	"testing"

	"rookery/api"
	"rookery/ring"
)

// dots: a set as its single dots.
type dots map[api.Dot]bool

// plain: a store as plain lists and single dots, written from the chapter alone. Its disk never goes off.
type plain struct {
	c      api.Config
	me     int
	gen    int
	known  map[int]dots // of the ranges that prefer the node
	keys   map[string][]api.Write
	pages  map[string]int
	hints  map[int]api.Hint // by page
	writes int              // raw writes of all commits
}

func newPlain(c api.Config, me int) *plain {
	p := &plain{c: c, me: me, gen: 1, known: map[int]dots{}, keys: map[string][]api.Write{}, pages: map[string]int{}, hints: map[int]api.Hint{}, writes: 5}
	for rng := range c.Ranges {
		if p.prefers(rng, me) {
			p.known[rng] = dots{}
		}
	}
	return p
}

func (p *plain) copy() *plain {
	q := *p
	q.known = map[int]dots{}
	for rng, k := range p.known {
		q.known[rng] = maps.Clone(k)
	}
	q.keys, q.pages, q.hints = maps.Clone(p.keys), maps.Clone(p.pages), maps.Clone(p.hints)
	return &q
}

func (p *plain) rangeOf(key string) int {
	r, _ := ring.New(p.c.Nodes, p.c.Ranges)
	return r.Range(key)
}

func (p *plain) prefers(rng, node int) bool {
	r, _ := ring.New(p.c.Nodes, p.c.Ranges)
	order, _ := r.Order(rng)
	at := slices.Index(order, node)
	return at >= 0 && at < p.c.Prefer
}

// set: the dots of a list, and whether it is a set for a gap, of so many nodes, up to a count.
func set(l []api.Span, gap, nodes, count int) (dots, bool) {
	all := dots{}
	for i, x := range l {
		if x.Node < 0 || x.Node >= nodes || i > 0 && x.Node <= l[i-1].Node || x.Base < 0 || x.Base > count || x.Base == 0 && x.Bits == 0 {
			return nil, false
		}
		for c := range x.Base {
			all[dot(x.Node, c+1)] = true
		}
		for i := range 64 {
			if x.Bits>>i&1 == 0 {
				continue
			}
			if i == 0 || i >= gap || x.Base+1+i > count {
				return nil, false
			}
			all[dot(x.Node, x.Base+1+i)] = true
		}
	}
	return all, true
}

func (p *plain) set(l []api.Span) (dots, bool) { return set(l, p.c.Gap, p.c.Nodes, p.c.Count) }

// base: up to which count a node's dots are all there; greatest: the last of them.
func (k dots) base(node int) int {
	n := 0
	for k[dot(node, n+1)] {
		n++
	}
	return n
}

func (k dots) greatest(node int) int {
	n := 0
	for d := range k {
		if d.Node == node {
			n = max(n, d.Count)
		}
	}
	return n
}

func (k dots) spans() []api.Span {
	var l []api.Span
	for node := range 8 {
		x := sp(node, k.base(node))
		for c := x.Base + 1; c <= k.greatest(node); c++ {
			if k[dot(node, c)] {
				x.Bits |= 1 << (c - x.Base - 1)
			}
		}
		if x != sp(node, 0) {
			l = append(l, x)
		}
	}
	return l
}

func (p *plain) right(w api.Write) bool {
	ctx, ok := p.set(w.Ctx)
	return ok && !ctx[w.Dot] && len(w.Key) > 0 && len(w.Key) <= 16 && len(w.Value) <= 64 && (!w.Dead || len(w.Value) == 0) &&
		w.Dot.Node >= 0 && w.Dot.Node < p.c.Nodes && w.Dot.Count > 0 && w.Dot.Count <= p.c.Count
}

// covers: of writes that are right.
func (p *plain) covers(t, w api.Write) bool {
	ctx, _ := p.set(t.Ctx)
	return t.Key == w.Key && ctx[w.Dot]
}

func rising(a, b api.Write) int {
	if a.Dot.Node != b.Dot.Node {
		return a.Dot.Node - b.Dot.Node
	}
	return a.Dot.Count - b.Dot.Count
}

// add: merges a write into its key's siblings, whatever the limits are; a new key gets its page.
func (p *plain) add(w api.Write) {
	var left []api.Write
	covered := false
	for _, t := range p.keys[w.Key] {
		if !p.covers(w, t) {
			left = append(left, t)
			covered = covered || p.covers(t, w)
		}
	}
	if !covered {
		left = append(left, w)
	}
	slices.SortFunc(left, rising)
	if _, ok := p.pages[w.Key]; !ok {
		n := 1
		for slices.Contains(slices.Collect(maps.Values(p.pages)), n) {
			n++
		}
		p.pages[w.Key] = n
	}
	p.keys[w.Key] = left
}

func (p *plain) limits() api.Errno {
	if len(p.keys) > p.c.Keys {
		return api.ErrKeys
	}
	for _, l := range p.keys {
		if len(l) > p.c.Siblings {
			return api.ErrSiblings
		}
	}
	return api.OK
}

// become: the next store in the place of this one, if its limits let it; four raw writes for each page that is another one, and one.
func (p *plain) become(q *plain) api.Errno {
	if err := q.limits(); err != api.OK {
		return err
	}
	changed := 0
	for rng, k := range q.known {
		if !maps.Equal(k, p.known[rng]) {
			changed = 1
		}
	}
	for key, l := range q.keys {
		if showAll(l) != showAll(p.keys[key]) {
			changed++
		}
	}
	if changed > 0 {
		q.writes += 4*changed + 1
	}
	*p = *q
	return api.OK
}

func (p *plain) Mint(key string, dead bool, value []byte, ctx []api.Span) (api.Write, api.Errno) {
	no := func(err api.Errno) (api.Write, api.Errno) { return api.Write{}, err }
	known, mine := p.known[p.rangeOf(key)]
	have, isSet := p.set(ctx)
	w := api.Write{Dot: dot(p.me, known.greatest(p.me)+1), Key: key, Dead: dead, Value: value, Ctx: ctx}
	switch {
	case len(key) == 0 || len(key) > 16:
		return no(api.ErrKey)
	case len(value) > 64:
		return no(api.ErrLong)
	case dead && len(value) > 0:
		return no(api.ErrArg)
	case !mine:
		return no(api.ErrMine)
	case !isSet:
		return no(api.ErrSet)
	case w.Dot.Count > p.c.Count:
		return no(api.ErrCount)
	case w.Dot.Count > known.base(p.me)+p.c.Gap:
		return no(api.ErrGap)
	case have[w.Dot]:
		return no(api.ErrWrite)
	}
	q := p.copy()
	q.add(w)
	q.known[p.rangeOf(key)][w.Dot] = true
	if err := p.become(q); err != api.OK {
		return no(err)
	}
	return w, api.OK
}

func (p *plain) Merge(w api.Write) (bool, api.Errno) {
	if !p.right(w) {
		return false, api.ErrWrite
	}
	known, mine := p.known[p.rangeOf(w.Key)]
	switch {
	case !mine:
		return false, api.ErrMine
	case known[w.Dot]:
		return false, api.OK
	case w.Dot.Count > known.base(w.Dot.Node)+p.c.Gap:
		return false, api.ErrGap
	}
	q := p.copy()
	q.add(w)
	q.known[p.rangeOf(w.Key)][w.Dot] = true
	err := p.become(q)
	return err == api.OK, err
}

func (p *plain) Take(rng int, set []api.Span, writes []api.Write) (int, api.Errno) {
	if rng < 0 || rng >= p.c.Ranges {
		return 0, api.ErrRange
	}
	known, mine := p.known[rng]
	if !mine {
		return 0, api.ErrMine
	}
	more, ok := p.set(set)
	if !ok {
		return 0, api.ErrSet
	}
	q, news := p.copy(), 0
	for i, w := range writes {
		if !p.right(w) || p.rangeOf(w.Key) != rng || !more[w.Dot] || i > 0 && rising(writes[i-1], w) >= 0 {
			return 0, api.ErrWrite
		}
		if !known[w.Dot] {
			q.add(w)
			news++
		}
	}
	maps.Copy(q.known[rng], more)
	if err := p.become(q); err != api.OK {
		return 0, err
	}
	return news, api.OK
}

// at: the page of a hint; 0, if it is not kept.
func (p *plain) at(owner int, key string, d api.Dot) int {
	for n, h := range p.hints {
		if h.Owner == owner && h.Write.Key == key && h.Write.Dot == d {
			return n
		}
	}
	return 0
}

func (p *plain) Hint(owner int, w api.Write) (bool, api.Errno) {
	if !p.right(w) {
		return false, api.ErrWrite
	}
	if owner < 0 || owner >= p.c.Nodes || owner == p.me {
		return false, api.ErrNode
	}
	rng := p.rangeOf(w.Key)
	switch {
	case !p.prefers(rng, owner) || p.prefers(rng, p.me):
		return false, api.ErrMine
	case p.at(owner, w.Key, w.Dot) > 0:
		return false, api.OK
	case len(p.hints) >= p.c.Hints:
		return false, api.ErrHints
	}
	n := 65
	for _, there := p.hints[n]; there; _, there = p.hints[n] {
		n++
	}
	p.hints[n] = hint(owner, w)
	p.writes += 5
	return true, api.OK
}

func (p *plain) Unhint(owner int, key string, d api.Dot) (bool, api.Errno) {
	n := p.at(owner, key, d)
	if n == 0 {
		return false, api.OK
	}
	delete(p.hints, n)
	p.writes++
	return true, api.OK
}

func (p *plain) clockList() []api.Clock {
	var l []api.Clock
	for _, rng := range slices.Sorted(maps.Keys(p.known)) {
		l = append(l, cl(rng, p.known[rng].spans()...))
	}
	return l
}

func (p *plain) see() api.State {
	st := api.State{Gen: p.gen, Clocks: p.clockList()}
	for _, key := range slices.Sorted(maps.Keys(p.keys)) {
		st.Keys = append(st.Keys, p.keys[key])
	}
	for _, h := range p.hints {
		st.Hints = append(st.Hints, h)
	}
	slices.SortFunc(st.Hints, func(a, b api.Hint) int {
		if a.Owner != b.Owner {
			return a.Owner - b.Owner
		}
		if a.Write.Key != b.Write.Key {
			return strings.Compare(a.Write.Key, b.Write.Key)
		}
		return rising(a.Write, b.Write)
	})
	return st
}

func (p *plain) missing(c api.Clock) []api.Write {
	have, _ := set(c.Set, api.MaxGap, api.MaxNodes, api.MaxCount)
	var l []api.Write
	for key, sibs := range p.keys {
		for _, w := range sibs {
			if p.rangeOf(key) == c.Range && !have[w.Dot] {
				l = append(l, w)
			}
		}
	}
	slices.SortFunc(l, rising)
	return l
}

func (p *plain) held(owner int, key string) []api.Write {
	var l []api.Write
	for _, h := range p.hints {
		if h.Owner == owner && h.Write.Key == key {
			l = append(l, h.Write)
		}
	}
	slices.SortFunc(l, rising)
	return l
}

// pageList: the pages as the disk is to have them.
func (p *plain) pageList(t *testing.T) []api.Change {
	t.Helper()
	clocks := slices.DeleteFunc(p.clockList(), func(c api.Clock) bool { return len(c.Set) == 0 })
	l := []api.Change{clockChange(t, p.gen, clocks...)}
	for key, sibs := range p.keys {
		l = append(l, keyChange(t, p.pages[key], sibs...))
	}
	for n, h := range p.hints {
		l = append(l, hintChange(t, n, h.Owner, h.Write))
	}
	return l
}
