package cluster

import (
	"cmp"
	"slices"

	"rookery/api"
)

// plainCall: a call that has not ended.
type plainCall struct {
	number   int
	get      bool
	key      string
	write    api.Write
	prefer   []int
	standins []int
	quorum   int
	sloppy   bool
	answered bool
	asked    map[int]int // by owners: the stand-in that was sent a message for it
	owners   map[int]plainTold
}

// plainTold: what was told for an owner.
type plainTold struct {
	found  bool
	writes []api.Write
	known  set
}

// plainNode: what a node has in memory while it is up.
type plainNode struct {
	calls      map[int]*plainCall
	timers     []api.Timer
	armed, now int
	marks      map[[2]int]int // of each pair of a range and a peer
	turns      int
}

// outcome: what a node answers.
type outcome struct {
	send []api.Msg
	done []api.Done
	err  api.Errno
}

func fails(err api.Errno) outcome { return outcome{err: err} }

func (n *plainNode) arm(delay, kind, call int) {
	n.armed++
	n.timers = append(n.timers, api.Timer{Due: n.now + delay, Number: n.armed, Kind: kind, Call: call})
	slices.SortFunc(n.timers, func(a, b api.Timer) int {
		return cmp.Or(cmp.Compare(a.Due, b.Due), cmp.Compare(a.Number, b.Number))
	})
}

func (n *plainNode) unanswered() []int {
	var out []int
	for number, k := range n.calls {
		if !k.answered {
			out = append(out, number)
		}
	}
	slices.Sort(out)
	return out
}

func (p *plain) order(rng int) (prefer, standins []int) {
	l, _ := p.ring.Order(rng)
	return l[:p.c.Prefer], l[p.c.Prefer:]
}

func (p *plain) minds(me, rng int) bool {
	first, _ := p.order(rng)
	return slices.Contains(first, me)
}

// open: P1401, P902.
func (p *plain) openNode(me int) api.Errno {
	next := p.disks[me].state.next()
	next.gen++
	if err := p.disks[me].commit(next, 1); err != api.OK {
		return err
	}
	n := &plainNode{calls: map[int]*plainCall{}, marks: map[[2]int]int{}}
	for rng := range p.c.Ranges {
		for peer := range p.c.Nodes {
			if peer != me && p.minds(me, rng) && p.minds(peer, rng) {
				n.marks[[2]int{rng, peer}] = 0
			}
		}
	}
	n.arm(30, api.TimeSync, 0)
	n.arm(50, api.TimeHand, 0)
	p.nodes[me] = n
	return api.OK
}

// join: rule 10.
func (p *plain) join(me int, w api.Write) api.Errno {
	d, rng := p.disks[me], p.ring.Range(w.Key)
	if d.state.clocks[rng].has(w.Dot) {
		return api.OK
	}
	if w.Dot.Count > d.state.clocks[rng].base(w.Dot.Node)+p.c.Gap {
		return api.ErrGap
	}
	was := d.state.keys[w.Key]
	if len(was) == 0 && len(d.state.keys) >= p.c.Keys {
		return api.ErrKeys
	}
	now := joined(was, w)
	if len(now) > p.c.Siblings {
		return api.ErrSiblings
	}
	next := d.state.next()
	next.keys[w.Key] = now
	next.clocks[rng][w.Dot] = struct{}{}
	pages := 1
	if showAll(was) != showAll(now) {
		pages = 2
	}
	return d.commit(next, pages)
}

// ship: rule 11.
func (p *plain) ship(me int, m api.Msg) api.Errno {
	d := p.disks[me]
	next := d.state.next()
	for _, w := range m.Writes {
		if !d.state.clocks[m.Range].has(w.Dot) {
			next.keys[w.Key] = joined(next.keys[w.Key], w)
		}
	}
	if len(next.keys) > p.c.Keys {
		return api.ErrKeys
	}
	pages := 0
	for key, l := range next.keys {
		if len(l) > p.c.Siblings {
			return api.ErrSiblings
		}
		if showAll(l) != showAll(d.state.keys[key]) {
			pages++
		}
	}
	next.clocks[m.Range] = union(d.state.clocks[m.Range], setOf(m.Set))
	if len(next.clocks[m.Range]) > len(d.state.clocks[m.Range]) {
		pages++
	}
	if pages == 0 {
		return api.OK
	}
	return d.commit(next, pages)
}

// begin: P1402, P1403: the errors that a call has ahead of what is stored; then the call.
func (p *plain) beginCall(me, number int, s api.Step, get bool, token set) outcome {
	rng := p.ring.Range(s.Key)
	switch {
	case len(s.Key) < 1 || len(s.Key) > 16:
		return fails(api.ErrKey)
	case !get && len(s.Value) > 64:
		return fails(api.ErrLong)
	case !get && s.Dead && len(s.Value) > 0:
		return fails(api.ErrArg)
	case !p.minds(me, rng):
		return fails(api.ErrMine)
	case s.Quorum < 1 || s.Quorum > p.c.Prefer:
		return fails(api.ErrArg)
	}
	k := &plainCall{number: number, get: get, key: s.Key, quorum: s.Quorum, sloppy: s.Sloppy, asked: map[int]int{}, owners: map[int]plainTold{}}
	k.prefer, k.standins = p.order(rng)
	state := p.disks[me].state
	first := api.Msg{Kind: api.MsgAsk, Key: s.Key}
	if !get {
		k.write = api.Write{Dot: dot(me, state.clocks[rng].top(me)+1), Key: s.Key, Dead: s.Dead, Value: s.Value, Ctx: token.spans()}
		if k.write.Dot.Count > p.c.Count {
			return fails(api.ErrCount)
		}
		if err := p.join(me, k.write); err != api.OK {
			return fails(err)
		}
		first = api.Msg{Kind: api.MsgStore, Writes: []api.Write{k.write}}
	}
	p.nodes[me].calls[number] = k
	out := p.told(me, k, me, plainTold{writes: state.keys[s.Key], known: state.clocks[rng].bases()})
	for _, to := range k.prefer {
		if to != me && out.err == api.OK {
			first.From, first.To, first.Call = me, to, number
			out.send = append(out.send, first)
		}
	}
	if p.nodes[me].calls[number] != nil {
		p.nodes[me].arm(20, api.TimeCall, number)
	}
	return out
}

// told: somebody has answered for an owner: P1103, P1104, P1106, P1107.
func (p *plain) told(me int, k *plainCall, owner int, what plainTold) outcome {
	k.owners[owner] = what
	var out outcome
	if len(k.owners) == k.quorum {
		k.answered = true
		if k.get {
			out = p.gather(me, k)
		} else {
			out.done = []api.Done{{Call: k.number, Writes: []api.Write{k.write}}}
		}
	}
	if k.get && k.answered || len(k.owners) == len(k.prefer) {
		delete(p.nodes[me].calls, k.number)
	}
	return out
}

// gather: P1107, and the node's own reads (chapter 14).
func (p *plain) gather(me int, k *plainCall) outcome {
	var told, found [][]api.Write
	var known []set
	for _, owner := range k.prefer {
		x, ok := k.owners[owner]
		switch {
		case ok && x.found:
			found = append(found, x.writes)
		case ok:
			told, known = append(told, x.writes), append(known, x.known)
		}
	}
	first, out := seen(told, known, p.c.Gap)
	token, more := seen(found, []set{first}, p.c.Gap)
	var lists [][]api.Write
	for _, l := range told {
		lists = append(lists, slices.DeleteFunc(slices.Clone(l), func(w api.Write) bool { return out.has(w.Dot) }))
	}
	for _, l := range found {
		lists = append(lists, slices.DeleteFunc(slices.Clone(l), func(w api.Write) bool { return more.has(w.Dot) }))
	}
	writes := uncovered(lists...)
	for _, w := range writes {
		if p.join(me, w) == api.ErrDown {
			return fails(api.ErrDown)
		}
	}
	res := outcome{done: []api.Done{{Call: k.number, Writes: writes, Token: token.spans()}}}
	for _, owner := range k.prefer {
		x, ok := k.owners[owner]
		if !ok || x.found || owner == me {
			continue
		}
		for _, w := range writes {
			if !slices.ContainsFunc(x.writes, func(y api.Write) bool { return y.Dot == w.Dot }) {
				res.send = append(res.send, msgStore(me, owner, 0, w))
			}
		}
	}
	return res
}

// handle: P1404.
func (p *plain) handle(m api.Msg) outcome {
	me := m.To
	d := p.disks[me]
	one := func(err api.Errno, reply api.Msg) outcome {
		if err != api.OK {
			return fails(err)
		}
		return outcome{send: []api.Msg{reply}}
	}
	switch m.Kind {
	case api.MsgStore:
		return one(p.join(me, m.Writes[0]), msgStored(me, m.From, m.Call, me))
	case api.MsgAsk:
		return one(0, msgTell(me, m.From, m.Call, m.Key, d.state.clocks[p.ring.Range(m.Key)].bases().spans(), d.state.keys[m.Key]...))
	case api.MsgStored, api.MsgTell, api.MsgFound:
		return p.hear(m)
	case api.MsgKeep:
		return one(p.keep(me, api.Hint{Owner: m.Owner, Write: m.Writes[0]}), msgStored(me, m.From, m.Call, m.Owner))
	case api.MsgSeek:
		return one(0, msgFound(me, m.From, m.Call, m.Owner, m.Key, p.held(me, m.Owner, m.Key)...))
	case api.MsgBack:
		return one(p.join(me, m.Writes[0]), msgTook(me, m.From, m.Writes[0].Key, m.Writes[0].Dot))
	case api.MsgTook:
		return fails(p.giveUp(me, m))
	case api.MsgShip:
		return fails(p.ship(me, m))
	}
	mine := d.state.clocks[m.Range]
	if mine.within(setOf(m.Set)) {
		return outcome{}
	}
	return outcome{send: []api.Msg{msgShip(me, m.From, m.Range, mine.spans(), p.beyond(me, m.Range, setOf(m.Set))...)}}
}

// beyond: the stored writes of a range whose dots a set lacks.
func (p *plain) beyond(me, rng int, s set) []api.Write {
	var out []api.Write
	for key, l := range p.disks[me].state.keys {
		for _, w := range l {
			if p.ring.Range(key) == rng && !s.has(w.Dot) {
				out = append(out, w)
			}
		}
	}
	slices.SortFunc(out, rising)
	return out
}

func (p *plain) held(me, owner int, key string) []api.Write {
	var out []api.Write
	for _, h := range p.disks[me].state.hints {
		if h.Owner == owner && h.Write.Key == key {
			out = append(out, h.Write)
		}
	}
	return out
}

func sameHint(a, b api.Hint) bool {
	return a.Owner == b.Owner && a.Write.Key == b.Write.Key && a.Write.Dot == b.Write.Dot
}

// keep: P908.
func (p *plain) keep(me int, h api.Hint) api.Errno {
	d := p.disks[me]
	if slices.ContainsFunc(d.state.hints, func(x api.Hint) bool { return sameHint(x, h) }) {
		return api.OK
	}
	if len(d.state.hints) >= p.c.Hints {
		return api.ErrHints
	}
	next := d.state.next()
	next.hints = append(next.hints, h)
	slices.SortFunc(next.hints, func(a, b api.Hint) int {
		return cmp.Or(cmp.Compare(a.Owner, b.Owner), cmp.Compare(a.Write.Key, b.Write.Key), rising(a.Write, b.Write))
	})
	return d.commit(next, 1)
}

// giveUp: P909, P1207.
func (p *plain) giveUp(me int, m api.Msg) api.Errno {
	d := p.disks[me]
	h := api.Hint{Owner: m.From, Write: api.Write{Key: m.Key, Dot: m.Dot}}
	next := d.state.next()
	next.hints = slices.DeleteFunc(next.hints, func(x api.Hint) bool { return sameHint(x, h) })
	if len(next.hints) == len(d.state.hints) {
		return api.OK
	}
	return d.commit(next, 0)
}

// hear: P1105.
func (p *plain) hear(m api.Msg) outcome {
	k := p.nodes[m.To].calls[m.Call]
	owner := m.Owner
	if m.Kind == api.MsgTell {
		owner = m.From
	}
	if k == nil || !slices.Contains(k.prefer, owner) || k.get == (m.Kind == api.MsgStored) {
		return outcome{}
	}
	if _, ok := k.owners[owner]; ok || k.get && m.Key != k.key {
		return outcome{}
	}
	standin, ok := k.asked[owner]
	stoodIn := ok && standin == m.From
	if m.Kind == api.MsgStored && m.From != owner && !stoodIn || m.Kind == api.MsgFound && !stoodIn {
		return outcome{}
	}
	return p.told(m.To, k, owner, plainTold{found: m.Kind == api.MsgFound, writes: m.Writes, known: setOf(m.Set)})
}

// fire: P1405.
func (p *plain) fire(me, i int) outcome {
	n := p.nodes[me]
	if i < 0 || i >= len(n.timers) {
		return fails(api.ErrTimer)
	}
	x := n.timers[i]
	n.timers = slices.Delete(n.timers, i, i+1)
	n.now = max(n.now, x.Due)
	var out outcome
	switch x.Kind {
	case api.TimeCall:
		return p.time(me, n.calls[x.Call])
	case api.TimeHand:
		n.arm(50, api.TimeHand, 0)
		for _, h := range p.disks[me].state.hints {
			out.send = append(out.send, msgBack(me, h.Owner, h.Write))
		}
	case api.TimeSync:
		n.arm(30, api.TimeSync, 0)
		if turn, ok := n.turn(); ok {
			n.turns++
			n.marks[turn] = n.turns
			out.send = []api.Msg{msgClock(me, turn[1], turn[0], p.disks[me].state.clocks[turn[0]].spans()...)}
		}
	}
	return out
}

// turn: the pair with the least mark, then range, then peer.
func (n *plainNode) turn() (least [2]int, ok bool) {
	for x, mark := range n.marks {
		if !ok || cmp.Or(cmp.Compare(mark, n.marks[least]), cmp.Compare(x[0], least[0]), cmp.Compare(x[1], least[1])) < 0 {
			least, ok = x, true
		}
	}
	return least, ok
}

// time: P1108.
func (p *plain) time(me int, k *plainCall) outcome {
	if k == nil {
		return outcome{}
	}
	if !k.sloppy {
		delete(p.nodes[me].calls, k.number)
		if k.answered {
			return outcome{}
		}
		return outcome{done: []api.Done{{Call: k.number, Err: api.ErrQuorum}}}
	}
	k.sloppy = false // the second time is like a strict call's
	var out outcome
	for _, owner := range k.prefer {
		if _, ok := k.owners[owner]; ok || len(k.standins) == 0 {
			continue
		}
		to := k.standins[0]
		k.standins = k.standins[1:]
		k.asked[owner] = to
		if k.get {
			out.send = append(out.send, msgSeek(me, to, k.number, owner, k.key))
		} else {
			out.send = append(out.send, msgKeep(me, to, k.number, owner, k.write))
		}
	}
	p.nodes[me].arm(20, api.TimeCall, k.number)
	return out
}
