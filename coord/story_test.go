package coord

import (
	"math/rand"
	"slices"
	"testing"

	"rookery/api"
	"rookery/dotset"
	"rookery/sibs"
)

// A story: five plain nodes, of which three are preferred, each with a coordinator; writes are made with tokens alone, messages come in any order, twice or never, timers fire anywhen. All counts lie within the gap, so that nothing is left out.

const (
	storyGap   = 64
	storySteps = 400
)

type plainNode struct {
	coord *Coord
	keys  map[string][]api.Write
	clock []api.Span
	kept  []api.Hint
}

// begun: what a call asked for, and who answered it, as the messages that were delivered say.
type begun struct {
	node, quorum int
	w            api.Write // of a Put
	key          string
	came         map[int]api.Msg // the first answer for each owner
	done         bool
}

type plainCluster struct {
	t      *testing.T
	r      *rand.Rand
	nodes  []*plainNode
	prefer []int
	bag    []api.Msg
	calls  []*begun
	tokens map[string][][]api.Span
	all    []api.Write
	met    map[string]int
}

func newPlainCluster(t *testing.T, r *rand.Rand, met map[string]int) *plainCluster {
	p := &plainCluster{t: t, r: r, prefer: []int{2, 0, 3}, tokens: map[string][][]api.Span{}, met: met}
	for n := range 5 {
		p.nodes = append(p.nodes, &plainNode{coord: fresh(t, n, storyGap), keys: map[string][]api.Write{}})
	}
	return p
}

func (p *plainCluster) merge(n int, w api.Write) {
	x := p.nodes[n]
	if dotset.Has(x.clock, w.Dot) {
		return
	}
	x.keys[w.Key], _ = sibs.Merge(x.keys[w.Key], w, 1000)
	x.clock, _ = dotset.Add(x.clock, w.Dot, storyGap)
}

func (p *plainCluster) put(n int, key string) {
	w := api.Write{Dot: api.Dot{Node: n, Count: 1}, Key: key}
	for _, s := range p.nodes[n].clock {
		if s.Node == n {
			w.Dot.Count = s.Base + 1
		}
	}
	if l := p.tokens[key]; len(l) > 0 && p.r.Intn(4) > 0 {
		w.Ctx = l[p.r.Intn(len(l))]
	}
	if w.Dot.Count > 20 {
		return
	}
	p.merge(n, w)
	p.all = append(p.all, w)
	b := &begun{node: n, quorum: 1 + p.r.Intn(3), w: w, came: map[int]api.Msg{}}
	p.calls = append(p.calls, b)
	p.see(n, false)(p.nodes[n].coord.Put(len(p.calls), w, p.prefer, []int{1, 4}, b.quorum, p.r.Intn(2) > 0))
}

func (p *plainCluster) get(n int, key string) {
	x := p.nodes[n]
	b := &begun{node: n, quorum: 1 + p.r.Intn(3), key: key, came: map[int]api.Msg{}}
	b.came[n] = api.Msg{Kind: api.MsgTell, From: n, Key: key, Writes: x.keys[key]}
	p.calls = append(p.calls, b)
	p.see(n, false)(x.coord.Get(len(p.calls), key, p.prefer, []int{1, 4}, b.quorum, p.r.Intn(2) > 0, x.keys[key], x.clock))
}

// deliver: a node does what a message asks for.
func (p *plainCluster) deliver(m api.Msg) {
	x, back := p.nodes[m.To], api.Msg{From: m.To, To: m.From, Call: m.Call, Key: m.Key}
	switch m.Kind {
	case api.MsgStore:
		p.merge(m.To, m.Writes[0])
		back.Kind, back.Owner = api.MsgStored, m.To
	case api.MsgKeep:
		x.kept = append(x.kept, api.Hint{Owner: m.Owner, Write: m.Writes[0]})
		back.Kind, back.Owner = api.MsgStored, m.Owner
	case api.MsgAsk:
		back.Kind, back.Set, back.Writes = api.MsgTell, dotset.Bases(x.clock), x.keys[m.Key]
	case api.MsgSeek:
		back.Kind, back.Owner = api.MsgFound, m.Owner
		for _, h := range x.kept {
			if h.Owner == m.Owner && h.Write.Key == m.Key {
				back.Writes = append(back.Writes, h.Write)
			}
		}
	default:
		b := p.calls[m.Call-1]
		if _, ok := b.came[ownerOf(m)]; !ok && !b.done {
			b.came[ownerOf(m)] = m
		}
		p.see(m.To, false)(x.coord.On(m))
		return
	}
	if back.Call != 0 {
		p.bag = append(p.bag, back)
	}
}

// see takes what a coordinator asks for, and looks at the ends of calls.
func (p *plainCluster) see(n int, timed bool) func(api.Acts, api.Errno) {
	return func(a api.Acts, err api.Errno) {
		if err != api.OK {
			p.t.Fatalf("error %d", err)
		}
		p.bag = append(p.bag, a.Send...)
		for _, d := range a.Done {
			b := p.calls[d.Call-1]
			if b.done || b.node != n {
				p.t.Fatalf("call %d was answered again, or by another node", d.Call)
			}
			b.done = true
			p.check(b, d, timed)
		}
	}
}

// check: P1111.
func (p *plainCluster) check(b *begun, d api.Done, timed bool) {
	owners := len(b.came)
	if b.key == "" {
		owners++ // the node itself
	}
	switch {
	case d.Err == api.ErrQuorum:
		p.met["quorum"]++
		if !timed || owners >= b.quorum {
			p.t.Fatalf("ErrQuorum with %d owners of %d; at a timer: %v", owners, b.quorum, timed)
		}
	case timed || owners != b.quorum:
		p.t.Fatalf("OK with %d owners of %d; at a timer: %v", owners, b.quorum, timed)
	case b.key == "":
		p.met["put"]++
		p.checkLasts(b)
	default:
		p.met["get"]++
		p.checkGet(b, d)
		p.tokens[b.key] = append(p.tokens[b.key], d.Token)
	}
}

// checkLasts: for a quorum of owners the write is stored, known or kept.
func (p *plainCluster) checkLasts(b *begun) {
	lasts := 0
	for _, n := range p.prefer {
		known := dotset.Has(p.nodes[n].clock, b.w.Dot)
		for _, x := range p.nodes {
			known = known || slices.ContainsFunc(x.kept, func(h api.Hint) bool { return h.Owner == n && sibs.Same(h.Write, b.w) })
		}
		if known {
			lasts++
		}
	}
	if lasts < b.quorum {
		p.t.Fatalf("a Put with the quorum %d lasts for %d owners", b.quorum, lasts)
	}
}

func (p *plainCluster) checkGet(b *begun, d api.Done) {
	covered := func(w api.Write) bool {
		return slices.ContainsFunc(d.Writes, func(t api.Write) bool { return sibs.Covers(t, w) })
	}
	for _, w := range d.Writes {
		if covered(w) {
			p.t.Fatalf("the answer covers its own write %v", w)
		}
	}
	for _, m := range b.came {
		for _, w := range m.Writes {
			if !hasDot(d.Writes, w) && !covered(w) {
				p.t.Fatalf("%v was told, and is neither answered nor covered", w)
			}
		}
	}
	for _, w := range p.all {
		if w.Key == b.key && dotset.Has(d.Token, w.Dot) != (hasDot(d.Writes, w) || covered(w)) {
			p.t.Fatalf("the token [%s] and the answer [%s] differ in %v", spanText(d.Token), writeText(d.Writes), w)
		}
	}
}

func (p *plainCluster) step() {
	n, key := p.prefer[p.r.Intn(3)], []string{"a", "b"}[p.r.Intn(2)]
	switch p.r.Intn(12) {
	case 0:
		p.put(n, key)
	case 1:
		p.get(n, key)
	case 2:
		if len(p.calls) > 0 {
			call := max(1, len(p.calls)-p.r.Intn(6))
			n := p.calls[call-1].node
			p.see(n, true)(p.nodes[n].coord.Time(call))
		}
	default:
		p.pick()
	}
}

// pick delivers a message of the bag, and takes it out, or not; or it is lost.
func (p *plainCluster) pick() {
	if len(p.bag) == 0 {
		return
	}
	i := p.r.Intn(len(p.bag))
	m, fate := p.bag[i], p.r.Intn(10)
	if fate > 0 {
		p.bag = slices.Delete(p.bag, i, i+1)
	}
	if fate != 1 {
		p.deliver(m)
	}
}

func TestP1111Stories(t *testing.T) {
	met := map[string]int{}
	for seed := range int64(300) {
		p := newPlainCluster(t, rand.New(rand.NewSource(seed)), met)
		for range storySteps {
			p.step()
		}
	}
	for _, what := range []string{"put", "get", "quorum"} {
		if met[what] < 500 {
			t.Errorf("only %d times %s", met[what], what)
		}
	}
}
