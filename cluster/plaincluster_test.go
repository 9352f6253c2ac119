package cluster

import (
	"maps"
	"slices"

	"rookery/api"
	"rookery/ring"
	"rookery/wire"
)

// plainBegun: a call that has had no Done.
type plainBegun struct {
	node, client int // client -1: no session's
	get          bool
	key          string
}

type plainRead struct {
	key   string
	token set
}

// plainClient: chapter 15.
type plainClient struct {
	liking []int
	heads  map[string]set
	calls  map[string]int
}

// plain: chapter 16.
type plain struct {
	c       api.Config
	ring    *ring.Ring
	disks   []*plainDisk
	nodes   []*plainNode // nil: it is down
	fuses   map[int][2]int
	bag     []api.Msg
	begun   int
	open    map[int]plainBegun
	reads   map[int]plainRead
	clients []*plainClient
}

func newPlain(c api.Config) *plain {
	p := &plain{c: c, fuses: map[int][2]int{}, open: map[int]plainBegun{}, reads: map[int]plainRead{}, nodes: make([]*plainNode, c.Nodes)}
	p.ring, _ = ring.New(c.Nodes, c.Ranges)
	for me := range c.Nodes {
		d := &plainDisk{on: true, state: plainState{keys: map[string][]api.Write{}, clocks: map[int]set{}}}
		for rng := range c.Ranges {
			if p.minds(me, rng) {
				d.state.clocks[rng] = set{}
			}
		}
		p.disks = append(p.disks, d)
		p.openNode(me)
	}
	for i := range 8 {
		x := &plainClient{heads: map[string]set{}, calls: map[string]int{}}
		for j := range c.Nodes {
			x.liking = append(x.liking, (i+j)%c.Nodes)
		}
		p.clients = append(p.clients, x)
	}
	return p
}

func (x *plainClient) failed(node int) {
	x.liking = append(slices.DeleteFunc(x.liking, func(n int) bool { return n == node }), node)
}

func (p *plain) next(client int, key string) (int, api.Errno) {
	if len(key) < 1 || len(key) > 16 {
		return 0, api.ErrKey
	}
	for _, node := range p.clients[client].liking {
		if p.minds(node, p.ring.Range(key)) {
			return node, api.OK
		}
	}
	return -1, -1
}

// do: P1602.
func (p *plain) do(s api.Step) api.Answer {
	switch s.Kind {
	case api.StepPut, api.StepGet, api.StepFire, api.StepCrash, api.StepArm, api.StepRestart, api.StepSee, api.StepImage:
		if s.Node < 0 || s.Node >= p.c.Nodes {
			return refused(api.ErrNode)
		}
	case api.StepWrite, api.StepRead, api.StepClient:
		if s.Client < 0 || s.Client > 7 {
			return refused(api.ErrClient)
		}
	}
	switch s.Kind {
	case api.StepPut, api.StepGet:
		return p.call(s, s.Kind == api.StepGet, -1)
	case api.StepFire, api.StepCrash, api.StepArm, api.StepRestart, api.StepSee:
		return p.ofNode(s)
	case api.StepDeliver, api.StepDrop, api.StepDouble, api.StepMove, api.StepBag:
		return p.ofBag(s)
	case api.StepImage: // which the test looks at by itself
		return api.Answer{Image: make([]byte, 808*512)}
	case api.StepWrite, api.StepRead:
		at, err := p.next(s.Client, s.Key)
		if err != api.OK {
			return refused(err)
		}
		if p.nodes[at] == nil {
			p.clients[s.Client].failed(at)
			return api.Answer{Err: api.ErrDown, Node: at}
		}
		s.Node, s.Sloppy, s.From = at, false, p.clients[s.Client].calls[s.Key]
		a := p.call(s, s.Kind == api.StepRead, s.Client)
		a.Node = at
		return a
	case api.StepClient:
		at, err := p.next(s.Client, s.Key)
		heads := slices.SortedFunc(maps.Keys(p.clients[s.Client].heads[s.Key]), func(a, b api.Dot) int {
			return rising(api.Write{Dot: a}, api.Write{Dot: b})
		})
		return api.Answer{Err: err, Node: at, Heads: heads}
	}
	return refused(api.ErrStep)
}

func (p *plain) call(s api.Step, get bool, client int) api.Answer {
	if p.nodes[s.Node] == nil {
		return refused(api.ErrDown)
	}
	if p.begun >= 4096 {
		return refused(api.ErrLong)
	}
	r, ok := p.reads[s.From]
	if !get && s.From != 0 && (!ok || r.key != s.Key) {
		return refused(api.ErrToken)
	}
	out := p.beginCall(s.Node, p.begun+1, s, get, r.token)
	if out.err != api.OK {
		return p.after(s.Node, out)
	}
	p.begun++
	p.open[p.begun] = plainBegun{node: s.Node, client: client, get: get, key: s.Key}
	a := p.after(s.Node, out)
	a.Call = p.begun
	return a
}

// after: what becomes of a node's answer.
func (p *plain) after(node int, out outcome) api.Answer {
	if out.err == api.ErrDown {
		return api.Answer{Err: api.ErrDown, Done: p.lose(node)}
	}
	for _, m := range out.send {
		if len(p.bag) < p.c.Bag {
			p.bag = append(p.bag, m)
		}
	}
	a := api.Answer{Err: out.err}
	for _, d := range out.done {
		a.Done = append(a.Done, p.end(d))
	}
	return a
}

func (p *plain) lose(node int) []api.Done {
	p.nodes[node] = nil
	var out []api.Done
	for _, number := range slices.Sorted(maps.Keys(p.open)) {
		if p.open[number].node == node {
			out = append(out, p.end(bad(number, api.ErrGone)))
		}
	}
	return out
}

// end: P1602, 13.
func (p *plain) end(d api.Done) api.Done {
	b := p.open[d.Call]
	delete(p.open, d.Call)
	var x *plainClient
	if b.client >= 0 {
		x = p.clients[b.client]
	}
	if d.Err != api.OK {
		if x != nil {
			x.failed(b.node)
		}
		return d
	}
	if !b.get {
		if x != nil {
			w := d.Writes[0]
			heads := set{w.Dot: {}}
			for y := range x.heads[w.Key] {
				if !setOf(w.Ctx).has(y) {
					heads[y] = struct{}{}
				}
			}
			x.heads[w.Key] = heads
		}
		return d
	}
	if x != nil {
		if !x.heads[b.key].within(setOf(d.Token)) {
			return bad(d.Call, api.ErrStale)
		}
		x.heads[b.key], x.calls[b.key] = set{}, d.Call
		for _, w := range d.Writes {
			x.heads[b.key][w.Dot] = struct{}{}
		}
	}
	p.reads[d.Call] = plainRead{key: b.key, token: setOf(d.Token)}
	return d
}

func (p *plain) ofNode(s api.Step) api.Answer {
	n, d := p.nodes[s.Node], p.disks[s.Node]
	switch {
	case s.Kind == api.StepArm && n != nil:
		d.armed, d.after, d.torn = s.I >= 0, s.I, s.J
	case s.Kind == api.StepArm:
		p.fuses[s.Node] = [2]int{s.I, s.J}
	case s.Kind == api.StepRestart && n != nil:
		return refused(api.ErrStep)
	case s.Kind == api.StepRestart:
		d.on = true
		if f, ok := p.fuses[s.Node]; ok {
			d.armed, d.after, d.torn = f[0] >= 0, f[0], f[1]
			delete(p.fuses, s.Node)
		}
		return refused(p.openNode(s.Node))
	case s.Kind == api.StepSee && n != nil:
		return api.Answer{Sight: api.Sight{Up: true, State: d.state.see(), Timers: n.timers, Calls: n.unanswered()}}
	case s.Kind == api.StepSee:
	case n == nil:
		return refused(api.ErrDown)
	case s.Kind == api.StepCrash:
		d.on, d.armed = false, false
		return api.Answer{Done: p.lose(s.Node)}
	default:
		return p.after(s.Node, p.fire(s.Node, s.I))
	}
	return api.Answer{}
}

func (p *plain) ofBag(s api.Step) api.Answer {
	has := func(i int) bool { return i >= 0 && i < len(p.bag) }
	if s.Kind == api.StepBag {
		var a api.Answer
		for _, m := range p.bag {
			data, _ := wire.Encode(m)
			a.Bag = append(a.Bag, api.Letter{From: m.From, To: m.To, Data: data})
		}
		return a
	}
	if !has(s.I) || s.Kind == api.StepMove && !has(s.J) {
		return refused(api.ErrIndex)
	}
	m := p.bag[s.I]
	if s.Kind == api.StepDouble {
		if len(p.bag) >= p.c.Bag {
			return refused(api.ErrLost)
		}
		p.bag = append(p.bag, m)
		return api.Answer{}
	}
	p.bag = slices.Delete(p.bag, s.I, s.I+1)
	switch {
	case s.Kind == api.StepMove:
		p.bag = slices.Insert(p.bag, s.J, m)
	case s.Kind == api.StepDeliver && p.nodes[m.To] == nil:
		return refused(api.ErrDown)
	case s.Kind == api.StepDeliver:
		return p.after(m.To, p.handle(m))
	}
	return api.Answer{}
}
