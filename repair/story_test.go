package repair

import (
	"math/rand"
	"slices"
	"testing"

	"rookery/api"
	"rookery/dotset"
	"rookery/ring"
)

// letter: a message under way; of a shipment also what its sender knew of the range when it was sent.
type letter struct {
	m    api.Msg
	knew []api.Span
}

// tale: nodes that mint, and compare what they know over a bag in which all may happen.
type tale struct {
	t       *testing.T
	r       *rand.Rand
	c       api.Config
	ring    *ring.Ring
	nodes   []*place
	bag     []letter
	shipped int // shipments that were taken
	told    int // clocks that were answered with nothing
}

func newTale(t *testing.T, seed int64) *tale {
	x := &tale{t: t, r: rand.New(rand.NewSource(seed)), c: five()}
	x.c.Siblings, x.c.Keys, x.c.Gap = 8, 64, 64
	x.ring, _ = ring.New(x.c.Nodes, x.c.Ranges)
	for me := range x.c.Nodes {
		x.nodes = append(x.nodes, fresh(t, x.c, me))
	}
	return x
}

// token: the dots of a key's siblings, and those that they know of.
func (x *tale) token(siblings []api.Write) []api.Span {
	var out []api.Span
	for _, w := range siblings {
		out, _ = dotset.Union(out, w.Ctx, x.c.Gap)
		out, _ = dotset.Add(out, w.Dot, x.c.Gap)
	}
	return out
}

// mint makes a write at a preferred node, mostly one that has read the key.
func (x *tale) mint() {
	key := oneOf(x.r, "g", "h", "a", "k", "p", "q", "b")
	first, _ := x.ring.Preferred(x.ring.Range(key), x.c.Prefer)
	p := x.nodes[oneOf(x.r, first...)]
	var ctx []api.Span
	if read := p.s.Read(key); x.r.Intn(6) > 0 || len(read) > 2 {
		ctx = x.token(read)
	}
	_, _ = p.s.Mint(key, x.r.Intn(4) == 0, nil, ctx)
}

// deliver hands over a message of the bag; now and then it stays there too.
func (x *tale) deliver(at int, twice bool) {
	x.t.Helper()
	l := x.bag[at]
	if !twice {
		x.bag = slices.Delete(x.bag, at, at+1)
	}
	p := x.nodes[l.m.To]
	if p.s.Dead() {
		return
	}
	if l.m.Kind == api.MsgClock {
		x.clock(p, l.m)
	} else {
		x.ship(p, l)
	}
}

// clock lets a node answer: nothing, just where it knows of nothing more.
func (x *tale) clock(p *place, m api.Msg) {
	x.t.Helper()
	a, err := p.r.Clock(m)
	if err != api.OK {
		x.t.Errorf("Clock of %s: %d", showMsg(m), err)
	}
	knew := p.s.Clock(m.Range)
	if within := dotset.Within(knew, m.Set); within != (len(a.Send) == 0) {
		x.t.Errorf("the node knows %v, the asker %v: it sends %s", knew, m.Set, showActs(a))
	}
	if len(a.Send) == 0 {
		x.told++
	}
	for _, m := range a.Send {
		x.bag = append(x.bag, letter{m, knew})
	}
}

// ship lets a node take a shipment: if it did, it knows all that the other one knew.
func (x *tale) ship(p *place, l letter) {
	x.t.Helper()
	_, err := p.r.Ship(l.m)
	if err != api.OK {
		return
	}
	x.shipped++
	if now := p.s.Clock(l.m.Range); !dotset.Within(l.knew, now) {
		x.t.Errorf("behind the shipment node %d knows %v; the other one knew %v", p.me, now, l.knew)
	}
}

func (x *tale) time(p *place) {
	a, _ := p.r.Time()
	for _, m := range a.Send {
		x.bag = append(x.bag, letter{m: m})
	}
}

func (x *tale) step() {
	x.t.Helper()
	p := oneOf(x.r, x.nodes...)
	switch n := x.r.Intn(20); {
	case n < 4:
		x.mint()
	case n < 8:
		x.time(p)
	case n == 8:
		p.d.Arm(x.r.Intn(30), x.r.Intn(513))
	case n < 11 && p.s.Dead():
		p.restart(x.t)
	case len(x.bag) == 0:
	case n == 11:
		at := x.r.Intn(len(x.bag))
		x.bag = slices.Delete(x.bag, at, at+1)
	default:
		x.deliver(x.r.Intn(len(x.bag)), n == 12)
	}
	if len(x.bag) > 40 {
		x.bag = x.bag[10:]
	}
}

// wantAlike: two nodes that know the same of a range store the same of its keys.
func (x *tale) wantAlike(must bool) {
	x.t.Helper()
	for rng := range x.c.Ranges {
		first, _ := x.ring.Preferred(rng, x.c.Prefer)
		one := x.nodes[first[0]]
		for _, n := range first[1:] {
			other := x.nodes[n]
			same := slices.Equal(one.s.Clock(rng), other.s.Clock(rng))
			if must && !same {
				x.t.Errorf("of the range %d node %d knows %v, node %d %v", rng, one.me, one.s.Clock(rng), n, other.s.Clock(rng))
			}
			if a, b := x.stored(one, rng), x.stored(other, rng); same && a != b {
				x.t.Errorf("both know %v; node %d stores %s, node %d %s", one.s.Clock(rng), one.me, a, n, b)
			}
		}
	}
}

func (x *tale) stored(p *place, rng int) string {
	return showAll(p.s.Missing([]api.Clock{{Range: rng}})[0])
}

// rest: all power on, no message is lost any more; each pair has its turn, in any order of deliveries.
func (x *tale) rest() {
	x.t.Helper()
	for _, p := range x.nodes {
		p.restart(x.t)
	}
	for range 3 {
		for _, p := range x.nodes {
			for range turnsOf(p.c, p.me) {
				x.time(p)
			}
		}
		for len(x.bag) > 0 {
			x.deliver(x.r.Intn(len(x.bag)), false)
		}
	}
}

// TestP1307Tales: whatever happens to messages and power, behind a shipment the one knows what the other knew; and at last all know and store the same.
func TestP1307Tales(t *testing.T) {
	shipped, told := 0, 0
	for seed := range int64(60) {
		x := newTale(t, seed)
		for range 250 {
			x.step()
		}
		for _, p := range x.nodes {
			p.restart(t)
		}
		x.wantAlike(false)
		x.rest()
		x.wantAlike(true)
		if t.Failed() {
			t.Fatalf("seed %d", seed)
		}
		shipped, told = shipped+x.shipped, told+x.told
	}
	if shipped < 1000 || told < 1000 {
		t.Errorf("only %d shipments were taken, %d clocks were answered with nothing", shipped, told)
	}
}

// TestP1307Late: what was sent long ago is taken late, behind other shipments and behind writes of both.
func TestP1307Late(t *testing.T) {
	p, q := fresh(t, three(), 1), fresh(t, three(), 2)
	old := q.mint(t, "g")
	ask, _ := p.r.Time()
	late, _ := q.r.Clock(ask.Send[0])
	cover := q.mint(t, "g", sp(2, 1))
	p.mint(t, "h")
	next, _ := q.r.Clock(ask.Send[0]) // doubled: the answer is that of today
	wantActs(t, "the late answer", late, api.OK, ship(2, 1, 0, spans(sp(2, 1)), old))
	wantActs(t, "the next answer", next, api.OK, ship(2, 1, 0, spans(sp(2, 2)), cover))
	for _, a := range []api.Acts{next, late, next} {
		got, err := p.r.Ship(a.Send[0])
		wantActs(t, "Ship", got, err)
		wantSet(t, "the clock", p.s.Clock(0), sp(1, 1), sp(2, 2))
		wantWrites(t, "g", p.s.Read("g"), cover)
	}
}

// TestP1307NothingToTell: an asker that knows all gets no answer.
func TestP1307NothingToTell(t *testing.T) {
	p, q := fresh(t, three(), 1), fresh(t, three(), 2)
	p.mint(t, "g")
	ask, err := p.r.Time()
	wantActs(t, "Time", ask, err, clock(1, 2, 0, sp(1, 1)))
	a, err := q.r.Clock(ask.Send[0])
	wantActs(t, "Clock", a, err)
}
