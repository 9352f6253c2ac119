package hints

import (
	"math/rand"
	"slices"
	"testing"

	"rookery/api"
	"rookery/disk"
	"rookery/dotset"
	"rookery/ring"
	"rookery/store"
)

// tale: nodes that keep for one another what was minted, over a bag in which all may happen.
type tale struct {
	t     *testing.T
	r     *rand.Rand
	c     api.Config
	ring  *ring.Ring
	nodes []*place
	bag   []api.Msg
	torn  map[int]torn // of nodes whose power failed with a message in hand
	went  int          // hints that were given up
}

// torn: the message in whose midst the power failed, and what was kept ahead of it.
type torn struct {
	m    api.Msg
	kept []api.Hint
}

func newTale(t *testing.T, seed int64) *tale {
	x := &tale{t: t, r: rand.New(rand.NewSource(seed)), c: five(), torn: map[int]torn{}}
	x.c.Siblings, x.c.Keys, x.c.Gap = 8, 64, 64
	x.ring, _ = ring.New(x.c.Nodes, x.c.Ranges)
	for me := range x.c.Nodes {
		x.nodes = append(x.nodes, fresh(t, x.c, me))
	}
	return x
}

// mint makes a write at a preferred node, and asks a stand-in to keep it for the other one.
func (x *tale) mint() {
	key := oneOf(x.r, "k", "p", "g", "b")
	rng := x.ring.Range(key)
	prefer, _ := x.ring.Preferred(rng, x.c.Prefer)
	standins, _ := x.ring.Standins(rng, x.c.Prefer)
	if x.r.Intn(2) == 0 {
		slices.Reverse(prefer)
	}
	s := x.nodes[prefer[0]].s
	w, err := s.Mint(key, x.r.Intn(4) == 0, nil, s.Clock(rng))
	if err == api.OK {
		x.bag = append(x.bag, keep(prefer[0], oneOf(x.r, standins...), 1, prefer[1], w))
	}
}

// deliver hands over a message of the bag; now and then it stays there too.
func (x *tale) deliver(at int, twice bool) {
	m := x.bag[at]
	if !twice {
		x.bag = slices.Delete(x.bag, at, at+1)
	}
	p := x.nodes[m.To]
	if p.s.Dead() {
		return
	}
	before := p.s.See().Hints
	a, err := do(p.h, m)
	if err == api.OK {
		x.bag = append(x.bag, a.Send...)
	}
	if p.s.Dead() {
		x.torn[m.To] = torn{m, before}
		return
	}
	x.wantWord(m, before, p.s.See().Hints)
}

// restart lets a node go on from its disk.
func (x *tale) restart(p *place) {
	x.t.Helper()
	p.restart(x.t)
	if was, ok := x.torn[p.me]; ok {
		x.wantWord(was.m, was.kept, p.s.See().Hints)
		delete(x.torn, p.me)
	}
}

// fail lets a node's power fail in the midst of what it does next, or in its next start.
func (x *tale) fail(p *place) {
	if p.s.Dead() {
		p.d.On()
		p.d.Arm(x.r.Intn(5), x.r.Intn(513))
		if s, err := store.Open(p.d, p.c, p.me); s != nil || err != api.ErrDown {
			x.t.Fatalf("a start without power: %d", err)
		}
		return
	}
	p.d.Arm(x.r.Intn(10), x.r.Intn(513))
}

// wantWord: what is not kept any more has its owner's word: this message; and the owner's disk knows the dot.
func (x *tale) wantWord(m api.Msg, before, after []api.Hint) {
	x.t.Helper()
	for _, h := range before {
		if slices.ContainsFunc(after, func(a api.Hint) bool { return show(a.Write) == show(h.Write) && a.Owner == h.Owner }) {
			continue
		}
		x.went++
		if m.Kind != api.MsgTook || m.From != h.Owner || m.Key != h.Write.Key || m.Dot != h.Write.Dot {
			x.t.Errorf("the hint for %d of %s went with %s", h.Owner, show(h.Write), showMsg(m))
		}
		if !x.knows(h.Owner, h.Write) {
			x.t.Errorf("the hint for %d of %s went, and its owner does not know it", h.Owner, show(h.Write))
		}
	}
}

// knows: does the owner's disk, opened by somebody else, know a write's dot?
func (x *tale) knows(owner int, w api.Write) bool {
	d, _ := disk.From(x.nodes[owner].d.Image())
	s, err := store.Open(d, x.c, owner)
	if err != api.OK {
		x.t.Fatalf("the disk of node %d: %d", owner, err)
	}
	return dotset.Has(s.Clock(x.ring.Range(w.Key)), w.Dot)
}

func (x *tale) step() {
	p := oneOf(x.r, x.nodes...)
	switch n := x.r.Intn(20); {
	case n < 4:
		x.mint()
	case n < 7:
		a, _ := p.h.Time()
		x.bag = append(x.bag, a.Send...)
	case n == 7:
		x.fail(p)
	case n < 10 && p.s.Dead():
		x.restart(p)
	case len(x.bag) == 0:
	case n == 10:
		at := x.r.Intn(len(x.bag))
		x.bag = slices.Delete(x.bag, at, at+1)
	default:
		x.deliver(x.r.Intn(len(x.bag)), n == 11)
	}
	if len(x.bag) > 60 {
		x.bag = x.bag[20:]
	}
}

// rest: all power on, all is handed back and delivered, in any order.
func (x *tale) rest() {
	for range 2 {
		for _, p := range x.nodes {
			x.restart(p)
			a, err := p.h.Time()
			if err != api.OK {
				x.t.Errorf("Time: %d", err)
			}
			x.bag = append(x.bag, a.Send...)
		}
		for len(x.bag) > 0 {
			x.deliver(x.r.Intn(len(x.bag)), false)
		}
	}
}

// TestP1209OwnersWord: whatever happens to messages and power, a hint goes only behind its owner's word; and at last all are gone.
func TestP1209OwnersWord(t *testing.T) {
	went := 0
	for seed := range int64(40) {
		x := newTale(t, seed)
		for range 250 {
			x.step()
		}
		kept := 0
		for _, p := range x.nodes {
			x.restart(p)
			kept += len(p.s.See().Hints)
		}
		x.rest()
		for _, p := range x.nodes {
			p.wantHints(t, "at rest")
		}
		went += x.went
		if t.Failed() {
			t.Fatalf("seed %d; %d hints were kept", seed, kept)
		}
	}
	if went < 400 {
		t.Errorf("only %d hints were given up", went)
	}
}
