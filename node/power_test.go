package node

import (
	"slices"
	"testing"

	"rookery/api"
	"rookery/disk"
)

// finder: a call that finds the disk off, right or refused for something else.
type finder struct {
	name string
	call func(n *Node) bool // whether it says that the node is down
}

func isNone(a api.Acts, err api.Errno) bool { return err == api.ErrDown && showActs(a) == "" }

func finders(t *testing.T) []finder {
	ask := bytesOf(t, msgAsk(atQ, atP, 1, "k"))
	store := bytesOf(t, msgStore(atQ, atP, 1, wr("k", atQ, 1)))
	return []finder{
		{"Put", func(n *Node) bool { return isNone(n.Put(5, "k", false, nil, nil, 1, false)) }},
		{"Put of no key", func(n *Node) bool { return isNone(n.Put(0, "", true, make([]byte, 99), nil, 9, false)) }},
		{"Get", func(n *Node) bool { return isNone(n.Get(6, "k", 1, false)) }},
		{"Get of no key", func(n *Node) bool { return isNone(n.Get(-1, "", 0, false)) }},
		{"Handle of an ask", func(n *Node) bool { return isNone(n.Handle(ask)) }},
		{"Handle of a write", func(n *Node) bool { return isNone(n.Handle(store)) }},
		{"Handle of nothing", func(n *Node) bool { return isNone(n.Handle(nil)) }},
		{"Fire", func(n *Node) bool { return isNone(n.Fire(0)) }},
		{"Fire of no timer", func(n *Node) bool { return isNone(n.Fire(-1)) }},
		{"See", func(n *Node) bool { return showSight(n.See()) == showSight(api.Sight{}) }},
		{"Down", func(n *Node) bool { return n.Down() }},
	}
}

// busy: a node with a key, an open call and a timer of it.
func busy(t *testing.T) *place {
	t.Helper()
	p := fresh(t, three(), atP)
	p.put(1, "k")
	p.does(p.n.Get(2, "k", 2, true))
	return p
}

// TestP1406DownForGood: whichever call finds the disk off first, the node is down from then on, also when the disk is on again.
func TestP1406DownForGood(t *testing.T) {
	for _, first := range finders(t) {
		p := busy(t)
		p.d.Off()
		if !first.call(p.n) {
			t.Errorf("%s does not find the disk off", first.name)
		}
		wrote := p.d.Writes()
		p.d.On()
		for _, next := range finders(t) {
			if !next.call(p.n) {
				t.Errorf("behind %s, %s: the node goes on", first.name, next.name)
			}
		}
		for _, call := range []func() api.Errno{
			func() api.Errno { _, err := p.n.Mint("k", false, nil, nil); return err },
			func() api.Errno { _, err := p.n.Merge(wr("k", 2, 1)); return err },
			func() api.Errno { _, err := p.n.Take(0, spans(sp(2, 1)), nil); return err },
		} {
			if err := call(); err != api.ErrDown {
				t.Errorf("behind %s a call of the node's store: %d", first.name, err)
			}
		}
		if p.d.Writes() != wrote {
			t.Errorf("a node that is down has written")
		}
		q := opened(t, three(), atP, p.d)
		if !p.n.Down() || q.n.Down() {
			t.Errorf("behind %s and a new Open: down %v, the new node %v", first.name, p.n.Down(), q.n.Down())
		}
	}
}

// TestP1406DownByStore: the store's own calls are the node's, too.
func TestP1406DownByStore(t *testing.T) {
	p := busy(t)
	p.d.Arm(3, 9)
	if _, err := p.n.Mint("k", false, nil, nil); err != api.ErrDown {
		t.Errorf("Mint: %d", err)
	}
	p.d.On()
	for _, next := range finders(t) {
		if !next.call(p.n) {
			t.Errorf("%s: the node goes on", next.name)
		}
	}
}

// TestP1406NotDown: a disk that goes off and on with no call between puts no node down.
func TestP1406NotDown(t *testing.T) {
	p := busy(t)
	was := p.sight()
	p.d.Off()
	p.d.On()
	if p.n.Down() || p.sight() != was {
		t.Errorf("%s; it was %s", p.sight(), was)
	}
	p.handle(msgTell(atQ, atP, 2, "k", nil), api.Acts{
		Send: []api.Msg{msgStore(atP, atQ, 0, wr("k", atP, 1))}, Done: []api.Done{got(2, spans(sp(atP, 1)), wr("k", atP, 1))},
	})
}

// TestP1406DownAlone: one node goes down, another one does not.
func TestP1406DownAlone(t *testing.T) {
	p, q := busy(t), busy(t)
	p.d.Off()
	if !p.n.Down() || q.n.Down() {
		t.Errorf("down: %v, %v", p.n.Down(), q.n.Down())
	}
	q.put(9, "j")
}

// change: a step with one commit of so many raw writes.
type change struct {
	name string
	me   int
	raw  int
	make func(p *place)
	step func(p *place) (api.Acts, api.Errno)
}

func handing(m api.Msg) func(p *place) (api.Acts, api.Errno) {
	return func(p *place) (api.Acts, api.Errno) { return p.n.Handle(bytesOf(p.t, m)) }
}

func changes() []change {
	w := wr("k", atQ, 1)
	nothing := func(p *place) {}
	return []change{
		{"Put", atP, 9, nothing, func(p *place) (api.Acts, api.Errno) { return p.n.Put(7, "k", false, nil, nil, 1, false) }},
		{"Put over", atP, 9, func(p *place) { p.put(1, "k") }, func(p *place) (api.Acts, api.Errno) {
			return p.n.Put(7, "k", true, nil, spans(sp(atP, 1)), 2, true)
		}},
		{"MsgStore", atP, 9, func(p *place) { p.put(1, "k") }, handing(msgStore(atQ, atP, 1, w))},
		{"MsgStore of what is covered", atP, 5, func(p *place) { p.put(1, "k", sp(atQ, 1)) }, handing(msgStore(atQ, atP, 1, w))},
		{"MsgBack", atP, 9, nothing, handing(msgBack(atS, atP, w))},
		{"MsgShip", atP, 13, func(p *place) { p.put(1, "j") }, handing(msgShip(atQ, atP, 0, spans(sp(atQ, 3)), w, wr("j", atQ, 3, sp(atP, 1))))},
		{"MsgKeep", atS, 5, nothing, handing(msgKeep(atQ, atS, 1, atP, w))},
		{"MsgTook", atS, 1, func(p *place) { p.take(msgKeep(atQ, atS, 1, atP, w)) }, handing(msgTook(atP, atS, "k", w.Dot))},
		{"a read write", atP, 9, func(p *place) { p.does(p.n.Get(1, "k", 2, false)) }, handing(msgTell(atQ, atP, 1, "k", nil, w))},
	}
}

// TestP1408EveryRawWrite: the power fails in each raw write of each change, torn anywhere: a node that is opened on the disk, or on one of the same bytes, sees the state ahead of the step or behind it.
func TestP1408EveryRawWrite(t *testing.T) {
	for _, x := range changes() {
		p := fresh(t, three(), x.me)
		x.make(p)
		before := showState(p.n.See().State)
		p.does(x.step(p))
		behind := showState(p.n.See().State)
		if before == behind {
			t.Fatalf("%s changes nothing", x.name)
		}
		for after := range x.raw + 1 {
			for _, torn := range []int{0, 1, 2, 9, 40, 200, 504, 505, 511, 512} {
				p := fresh(t, three(), x.me)
				x.make(p)
				p.d.Arm(after, torn)
				a, err := x.step(p)
				if down := after < x.raw; down != isNone(a, err) || down != p.n.Down() || !down && err != api.OK {
					t.Errorf("%s, power for %d raw writes and %d bytes: %d, %s", x.name, after, torn, err, showActs(a))
				}
				want := []string{before, behind}
				switch {
				case after == x.raw || after == x.raw-1 && torn == 512:
					want = want[1:]
				case after < x.raw-1 || torn == 0:
					want = want[:1]
				}
				wantGoesOn(t, p, x.name, want)
			}
		}
	}
}

// wantGoesOn: opened on the same bytes, and on the disk itself, a node sees one of these states, and the next Gen.
func wantGoesOn(t *testing.T, p *place, what string, want []string) {
	t.Helper()
	d, _ := disk.From(p.d.Image())
	twin := opened(t, p.c, p.me, d)
	p.restart()
	x, y := p.n.See(), twin.n.See()
	if showSight(x) != showSight(y) {
		t.Errorf("%s: %s; on the same bytes %s", what, showSight(x), showSight(y))
	}
	if !slices.Contains(want, showState(x.State)) || x.State.Gen != 2 {
		t.Errorf("%s: Gen %d, %s; want one of %q", what, x.State.Gen, showState(x.State), want)
	}
}
