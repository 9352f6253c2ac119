package cluster

import (
	"cmp"
	"maps"
	"slices"

	"rookery/api"
)

// A cluster said by the document's rules: nodes are plain sets of writes and dots, messages are not written as bytes, a disk is a state and a number of raw writes. (This file: dots, writes, disks.)

// set: plain dots.
type set map[api.Dot]struct{}

func (s set) has(d api.Dot) bool {
	_, ok := s[d]
	return ok
}

// base: up to where all counts of a node are there.
func (s set) base(node int) int {
	n := 0
	for s.has(dot(node, n+1)) {
		n++
	}
	return n
}

func (s set) top(node int) int {
	n := 0
	for d := range s {
		if d.Node == node {
			n = max(n, d.Count)
		}
	}
	return n
}

// bases: what lies within the bases.
func (s set) bases() set {
	out := set{}
	for d := range s {
		if d.Count <= s.base(d.Node) {
			out[d] = struct{}{}
		}
	}
	return out
}

func (s set) within(o set) bool {
	for d := range s {
		if !o.has(d) {
			return false
		}
	}
	return true
}

func union(l ...set) set {
	out := set{}
	for _, s := range l {
		maps.Copy(out, s)
	}
	return out
}

// spans: the set in the form in which it is told.
func (s set) spans() []api.Span {
	var out []api.Span
	for node := range api.MaxNodes {
		x := api.Span{Node: node, Base: s.base(node)}
		for d := range s {
			if d.Node == node && d.Count > x.Base {
				x.Bits |= 1 << (d.Count - x.Base - 1)
			}
		}
		if x.Base > 0 || x.Bits > 0 {
			out = append(out, x)
		}
	}
	return out
}

func setOf(l []api.Span) set {
	out := set{}
	for _, x := range l {
		for n := range x.Base {
			out[dot(x.Node, n+1)] = struct{}{}
		}
		for i := range 64 {
			if x.Bits>>i&1 == 1 {
				out[dot(x.Node, x.Base+1+i)] = struct{}{}
			}
		}
	}
	return out
}

func covers(t, w api.Write) bool { return t.Key == w.Key && setOf(t.Ctx).has(w.Dot) }

func rising(a, b api.Write) int {
	return cmp.Or(cmp.Compare(a.Dot.Node, b.Dot.Node), cmp.Compare(a.Dot.Count, b.Dot.Count))
}

// joined: siblings with a write more.
func joined(l []api.Write, w api.Write) []api.Write {
	var out []api.Write
	covered := false
	for _, x := range l {
		if !covers(w, x) {
			out = append(out, x)
			covered = covered || covers(x, w)
		}
	}
	if !covered {
		out = append(out, w)
	}
	slices.SortFunc(out, rising)
	return out
}

// uncovered: of several lists the writes that no other one covers, each dot once, rising.
func uncovered(lists ...[]api.Write) []api.Write {
	all := firsts(lists)
	return slices.DeleteFunc(slices.Clone(all), func(w api.Write) bool {
		return slices.ContainsFunc(all, func(t api.Write) bool { return t.Dot != w.Dot && covers(t, w) })
	})
}

// firsts: the first write of each dot, rising.
func firsts(lists [][]api.Write) []api.Write {
	met := set{}
	var out []api.Write
	for _, w := range slices.Concat(lists...) {
		if !met.has(w.Dot) {
			out = append(out, w)
		}
		met[w.Dot] = struct{}{}
	}
	slices.SortFunc(out, rising)
	return out
}

// seen: P506: the dots of whoever has been told these writes by nodes that know these bases; and what does not fit.
func seen(lists [][]api.Write, bases []set, gap int) (token, out set) {
	token, out = union(bases...), set{}
	for _, w := range firsts(lists) {
		next := union(token, setOf(w.Ctx))
		if w.Dot.Count > next.base(w.Dot.Node)+gap {
			out[w.Dot] = struct{}{}
			continue
		}
		next[w.Dot] = struct{}{}
		token = next
	}
	return token, out
}

// plainState: what lasts.
type plainState struct {
	gen    int
	keys   map[string][]api.Write
	clocks map[int]set
	hints  []api.Hint
}

func (s plainState) next() plainState {
	n := plainState{gen: s.gen, keys: maps.Clone(s.keys), clocks: map[int]set{}, hints: slices.Clone(s.hints)}
	for rng, k := range s.clocks {
		n.clocks[rng] = union(k)
	}
	return n
}

func (s plainState) see() api.State {
	out := api.State{Gen: s.gen, Hints: s.hints}
	for _, key := range slices.Sorted(maps.Keys(s.keys)) {
		out.Keys = append(out.Keys, s.keys[key])
	}
	for _, rng := range slices.Sorted(maps.Keys(s.clocks)) {
		out.Clocks = append(out.Clocks, api.Clock{Range: rng, Set: s.clocks[rng].spans()})
	}
	return out
}

// plainDisk: a state, and how many raw writes are done ahead of a power failure.
type plainDisk struct {
	state       plainState
	on, armed   bool
	after, torn int
	raw         int
	number      int
	tails       [2][8]byte // what the two roots end with: by that a torn one is told
}

// commit: four raw writes a page, and the root; the power fails in the midst of one of them.
func (d *plainDisk) commit(next plainState, pages int) api.Errno {
	writes, number := 4*pages+1, d.number+1
	bytes := 8
	if d.armed && d.after < writes {
		bytes = 0
		if d.after == writes-1 {
			bytes = min(max(d.torn-504, 0), 8)
		}
		d.raw += d.after + 1
		d.on, d.armed = false, false
	} else {
		d.raw += writes
		d.after -= writes
	}
	for i := range bytes {
		d.tails[number%2][i] = byte(number >> (8 * i))
	}
	var whole [8]byte
	for i := range 8 {
		whole[i] = byte(number >> (8 * i))
	}
	if d.tails[number%2] == whole {
		d.state, d.number = next, number
	}
	if !d.on {
		return api.ErrDown
	}
	return api.OK
}
