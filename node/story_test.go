package node

import (
	"fmt"
	"math/rand"
	"slices"
	"testing"

	"rookery/api"
	"rookery/disk"
	"rookery/dotset"
	"rookery/ring"
	"rookery/sibs"
	"rookery/store"
)

// member: a node; a twin that goes through the same, but that its power never fails; and what was seen of it last, over its restarts.
type member struct {
	*place
	twin   *place
	armed  bool
	clocks map[int][]api.Span
}

// tale: five nodes, and a bag in which all may happen to messages.
type tale struct {
	t       *testing.T
	r       *rand.Rand
	c       api.Config
	ring    *ring.Ring
	nodes   []*member
	bag     []api.Msg
	calls   int
	puts    map[string]int // of each key
	reads   []api.Done     // what Gets have answered
	keys    map[int]string // of calls
	kept    []api.Write    // what Puts have answered
	between int            // power failures between two commits of a step
	failed  int
	resting bool
}

func newTale(t *testing.T, seed int64) *tale {
	x := &tale{t: t, r: rand.New(rand.NewSource(seed)), c: five(), puts: map[string]int{}, keys: map[int]string{}}
	x.c.Siblings, x.c.Keys, x.c.Gap, x.c.Hints = 8, 64, 64, 32
	x.ring, _ = ring.New(x.c.Nodes, x.c.Ranges)
	for me := range x.c.Nodes {
		x.nodes = append(x.nodes, &member{place: fresh(t, x.c, me), twin: fresh(t, x.c, me), clocks: map[int][]api.Span{}})
	}
	return x
}

// step has a node and its twin do the same; where the power fails, the node is looked at on its disk.
func (x *tale) step(n *member, do func(n *Node) (api.Acts, api.Errno)) {
	x.t.Helper()
	before := n.n.See().State
	var image []byte
	if n.armed {
		image = n.d.Image()
	}
	a, err := do(n.n)
	b, want := do(n.twin.n)
	if n.n.Down() {
		if err != api.ErrDown || showActs(a) != "" {
			x.t.Errorf("node %d is down, and answers %d, %s", n.me, err, showActs(a))
		}
		x.failed++
		x.wantBetween(n, before, image, b)
		x.look(n)
		return
	}
	n.check(a)
	if err != want || showActs(a) != showActs(b) || showSight(n.n.See()) != showSight(n.twin.n.See()) {
		x.t.Errorf("node %d: %d, %s; its twin %d, %s", n.me, err, showActs(a), want, showActs(b))
	}
	x.bag = append(x.bag, a.Send...)
	for _, d := range a.Done {
		x.ended(d)
	}
	x.look(n)
}

func (x *tale) ended(d api.Done) {
	if d.Err != api.OK {
		return
	}
	if x.keys[d.Call] == "" {
		x.kept = append(x.kept, d.Writes...)
	} else {
		x.reads = append(x.reads, d)
	}
}

// wantBetween: P1408: on its disk the node finds the state ahead of the step, or one that the step had reached by whole commits: its twin has done the step, and told what was read.
func (x *tale) wantBetween(n *member, before api.State, image []byte, acts api.Acts) {
	x.t.Helper()
	states := []string{showState(before)}
	d, _ := disk.From(image)
	if s, err := store.Open(d, x.c, n.me); err == api.OK {
		for _, y := range acts.Done {
			for _, w := range y.Writes {
				_, _ = s.Merge(w)
				states = append(states, showState(s.See()))
			}
		}
	}
	states = append(states, showState(n.twin.n.See().State))
	x.restart(n)
	now := n.n.See().State
	if !slices.Contains(states, showState(now)) || now.Gen != before.Gen+1 {
		x.t.Errorf("node %d: Gen %d, %s; want one of %q", n.me, now.Gen, showState(now), states)
	}
	if s := showState(now); s != states[0] && s != states[len(states)-1] {
		x.between++
	}
}

// restart opens the node on its disk, and its twin on the same bytes; both see the same.
func (x *tale) restart(n *member) {
	x.t.Helper()
	d, _ := disk.From(n.d.Image())
	n.twin = opened(x.t, x.c, n.me, d)
	n.place.restart()
	n.armed = false
	if showSight(n.n.See()) != showSight(n.twin.n.See()) {
		x.t.Errorf("node %d: %s; on the same bytes %s", n.me, showSight(n.n.See()), showSight(n.twin.n.See()))
	}
}

// look: P1409.
func (x *tale) look(n *member) {
	x.t.Helper()
	state := n.n.See().State
	for _, l := range state.Keys {
		clock := n.n.Clock(x.ring.Range(l[0].Key))
		if !sibs.Valid(l, x.c.Gap) || slices.ContainsFunc(l, func(w api.Write) bool { return !dotset.Has(clock, w.Dot) }) {
			x.t.Errorf("node %d knows %v, its siblings are %s", n.me, clock, showAll(l))
		}
	}
	for _, k := range state.Clocks {
		was := n.clocks[k.Range]
		if !dotset.Within(was, k.Set) || ownCount(k.Set, n.me) < ownCount(was, n.me) {
			x.t.Errorf("node %d, range %d: the clock is %v; it was %v", n.me, k.Range, k.Set, was)
		}
		n.clocks[k.Range] = k.Set
	}
}

// ownCount: the greatest of the node's own; all come by minting, so it is a base.
func ownCount(s []api.Span, me int) int {
	for _, k := range s {
		if k.Node == me {
			return k.Base
		}
	}
	return 0
}

func (x *tale) put() {
	x.t.Helper()
	key := oneOf(x.r, "g", "a", "k", "p", "b")
	if x.puts[key] == x.c.Siblings { // so that there never are too many siblings
		return
	}
	x.puts[key]++
	y := tried{call: x.number(""), key: key, dead: x.r.Intn(4) == 0, quorum: 1 + x.r.Intn(3), sloppy: x.r.Intn(2) == 0}
	for _, d := range x.reads {
		if x.keys[d.Call] == key && x.r.Intn(3) == 0 {
			y.token = d.Token
		}
	}
	x.step(x.minding(key), y.put)
}

func (x *tale) get() {
	x.t.Helper()
	key := oneOf(x.r, "g", "a", "k", "p", "b")
	y := tried{call: x.number(key), key: key, quorum: 1 + x.r.Intn(3), sloppy: x.r.Intn(2) == 0}
	x.step(x.minding(key), y.get)
}

// number: of the next call, and the key, if it is a Get.
func (x *tale) number(key string) int {
	x.calls++
	x.keys[x.calls] = key
	return x.calls
}

// minding: one of the key's preferred nodes.
func (x *tale) minding(key string) *member {
	first, _ := x.ring.Preferred(x.ring.Range(key), x.c.Prefer)
	return x.nodes[oneOf(x.r, first...)]
}

func (x *tale) deliver(at int, twice bool) {
	x.t.Helper()
	m := x.bag[at]
	if !twice {
		x.bag = slices.Delete(x.bag, at, at+1)
	}
	if (m.Kind == api.MsgTell || m.Kind == api.MsgFound) && x.r.Intn(3) == 0 { // which may store several writes
		x.arm(x.nodes[m.To], 5+x.r.Intn(14))
	}
	data := bytesOf(x.t, m)
	x.step(x.nodes[m.To], func(n *Node) (api.Acts, api.Errno) { return n.Handle(data) })
}

func (x *tale) arm(n *member, after int) {
	if !x.resting {
		n.d.Arm(after, x.r.Intn(513))
		n.armed = true
	}
}

func (x *tale) any() {
	x.t.Helper()
	n := oneOf(x.r, x.nodes...)
	switch k := x.r.Intn(30); {
	case k < 4:
		x.put()
	case k < 8:
		x.get()
	case k < 11:
		at := x.r.Intn(3)
		x.step(n, func(n *Node) (api.Acts, api.Errno) { return n.Fire(at) })
	case k == 11:
		x.arm(n, x.r.Intn(25))
	case k == 12 && x.r.Intn(4) == 0:
		x.restart(n)
		x.look(n)
	case len(x.bag) == 0:
	case k == 13 || k > 25 && x.bag[0].Kind == api.MsgStore: // writes are lost more often than others
		x.bag = x.bag[1:]
	default:
		x.deliver(x.r.Intn(len(x.bag)), k == 14)
	}
}

// rest: all power on, no message is lost any more; timers and deliveries alone.
func (x *tale) rest() {
	x.t.Helper()
	x.resting = true
	for _, n := range x.nodes {
		x.restart(n)
	}
	for range 20 {
		for len(x.bag) > 0 {
			x.deliver(x.r.Intn(len(x.bag)), false)
		}
		for _, n := range x.nodes {
			for range len(n.n.See().Timers) {
				x.step(n, func(n *Node) (api.Acts, api.Errno) { return n.Fire(0) })
			}
		}
	}
	for len(x.bag) > 0 {
		x.deliver(x.r.Intn(len(x.bag)), false)
	}
}

// wantAlike: nobody keeps a hint, all preferred nodes of a range know and store the same, and know each write that was answered.
func (x *tale) wantAlike() {
	x.t.Helper()
	for rng := range x.c.Ranges {
		first, _ := x.ring.Preferred(rng, x.c.Prefer)
		var all []string
		for _, me := range first {
			n := x.nodes[me].n
			all = append(all, fmt.Sprint(n.Clock(rng), showAll(n.Missing([]api.Clock{{Range: rng}})[0])))
		}
		if len(slices.Compact(all)) > 1 {
			x.t.Errorf("range %d: the nodes %v know and store %q", rng, first, all)
		}
		for _, w := range x.kept {
			if x.ring.Range(w.Key) == rng && !dotset.Has(x.nodes[first[0]].n.Clock(rng), w.Dot) {
				x.t.Errorf("%s was answered, and nobody knows it", show(w))
			}
		}
	}
	for _, n := range x.nodes {
		n.wantHints()
	}
}

// TestP1408P1409Tales: whatever happens to messages and power, a node goes on from its disk, its siblings are such and its clocks grow; and at last all nodes are alike.
func TestP1408P1409Tales(t *testing.T) {
	failed, between, kept, reads := 0, 0, 0, 0
	for seed := range int64(60) {
		x := newTale(t, seed)
		for range 250 {
			x.any()
		}
		x.rest()
		x.wantAlike()
		if t.Failed() {
			t.Fatalf("seed %d", seed)
		}
		failed, between, kept, reads = failed+x.failed, between+x.between, kept+len(x.kept), reads+len(x.reads)
	}
	if failed < 300 || between < 3 || kept < 500 || reads < 500 {
		t.Errorf("only %d power failures, %d of them between two commits of a step; %d Puts and %d Gets were answered", failed, between, kept, reads)
	}
}
