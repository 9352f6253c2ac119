package node

import (
	"fmt"
	"slices"
	"strings"
	"testing"

	"rookery/api"
	"rookery/disk"
	"rookery/pagefile"
	"rookery/ring"
	"rookery/wire"
)

// three: the config of the chapter's examples: the range 0 prefers 1 and 2 (p and q), 0 stands in (s).
func three() api.Config {
	return api.Config{Nodes: 3, Prefer: 2, Ranges: 1, Siblings: 2, Gap: 4, Count: 100, Keys: 2, Hints: 2, Bag: 50}
}

const (
	atP = 1
	atQ = 2
	atS = 0
)

// five: the orders of the ranges 0 to 3 are 1 3 2 0 4, 2 4 3 0 1, 2 0 4 1 3, 1 3 2 0 4. The keys g h n lie in 0, a d k in 1, p q in 2, b c f in 3.
func five() api.Config {
	return api.Config{Nodes: 5, Prefer: 3, Ranges: 4, Siblings: 3, Gap: 6, Count: 1000, Keys: 6, Hints: 4, Bag: 50}
}

// alone: one node, which minds all.
func alone() api.Config {
	c := three()
	c.Nodes, c.Prefer = 1, 1
	return c
}

// place: a node and its disk.
type place struct {
	t  *testing.T
	c  api.Config
	me int
	d  *disk.Disk
	n  *Node
}

func fresh(t *testing.T, c api.Config, me int) *place {
	t.Helper()
	d, err := disk.New(pagefile.Sectors)
	if err != api.OK {
		t.Fatalf("a disk: %d", err)
	}
	return opened(t, c, me, d)
}

func opened(t *testing.T, c api.Config, me int, d *disk.Disk) *place {
	t.Helper()
	n, err := Open(c, me, d)
	if n == nil || err != api.OK {
		t.Fatalf("Open of node %d: %v, %d; want a node", me, n != nil, err)
	}
	return &place{t: t, c: c, me: me, d: d, n: n}
}

// restart takes the power away and gives it back; a new node is opened.
func (p *place) restart() {
	p.t.Helper()
	p.d.Off()
	p.d.On()
	p.n = opened(p.t, p.c, p.me, p.d).n
}

// world: all nodes of a config.
func world(t *testing.T, c api.Config) []*place {
	t.Helper()
	var out []*place
	for me := range c.Nodes {
		out = append(out, fresh(t, c, me))
	}
	return out
}

// keysOf: so many keys of a range.
func keysOf(c api.Config, rng, many int) []string {
	circle, _ := ring.New(c.Nodes, c.Ranges)
	var out []string
	for i := 0; len(out) < many; i++ {
		if key := fmt.Sprintf("key%d", i); circle.Range(key) == rng {
			out = append(out, key)
		}
	}
	return out
}

func sp(node, base int) api.Span { return api.Span{Node: node, Base: base} }

// far: a span with counts beyond its base.
func far(node, base int, bits uint64) api.Span { return api.Span{Node: node, Base: base, Bits: bits} }

func spans(l ...api.Span) []api.Span { return l }

func dot(node, count int) api.Dot { return api.Dot{Node: node, Count: count} }

// wr: a write with the value v.
func wr(key string, node, count int, ctx ...api.Span) api.Write {
	return api.Write{Dot: dot(node, count), Key: key, Value: []byte("v"), Ctx: ctx}
}

func list(l ...api.Write) []api.Write { return l }

func msgStore(from, to, call int, w api.Write) api.Msg {
	return api.Msg{Kind: 1, From: from, To: to, Call: call, Writes: list(w)}
}

func msgStored(from, to, call, owner int) api.Msg {
	return api.Msg{Kind: 2, From: from, To: to, Call: call, Owner: owner}
}

func msgKeep(from, to, call, owner int, w api.Write) api.Msg {
	return api.Msg{Kind: 3, From: from, To: to, Call: call, Owner: owner, Writes: list(w)}
}

func msgAsk(from, to, call int, key string) api.Msg {
	return api.Msg{Kind: 4, From: from, To: to, Call: call, Key: key}
}

func msgTell(from, to, call int, key string, set []api.Span, l ...api.Write) api.Msg {
	return api.Msg{Kind: 5, From: from, To: to, Call: call, Key: key, Set: set, Writes: l}
}

func msgSeek(from, to, call, owner int, key string) api.Msg {
	return api.Msg{Kind: 6, From: from, To: to, Call: call, Owner: owner, Key: key}
}

func msgFound(from, to, call, owner int, key string, l ...api.Write) api.Msg {
	return api.Msg{Kind: 7, From: from, To: to, Call: call, Owner: owner, Key: key, Writes: l}
}

func msgClock(from, to, rng int, set ...api.Span) api.Msg {
	return api.Msg{Kind: 8, From: from, To: to, Range: rng, Set: set}
}

func msgShip(from, to, rng int, set []api.Span, l ...api.Write) api.Msg {
	return api.Msg{Kind: 9, From: from, To: to, Range: rng, Set: set, Writes: l}
}

func msgBack(from, to int, w api.Write) api.Msg {
	return api.Msg{Kind: 10, From: from, To: to, Writes: list(w)}
}

func msgTook(from, to int, key string, d api.Dot) api.Msg {
	return api.Msg{Kind: 11, From: from, To: to, Key: key, Dot: d}
}

func doneOK(call int, l ...api.Write) api.Done { return api.Done{Call: call, Writes: l} }

// got: the end of a Get.
func got(call int, token []api.Span, l ...api.Write) api.Done {
	return api.Done{Call: call, Writes: l, Token: token}
}

func late(call int) api.Done { return api.Done{Call: call, Err: api.ErrQuorum} }

func send(l ...api.Msg) api.Acts { return api.Acts{Send: l} }

func done(l ...api.Done) api.Acts { return api.Acts{Done: l} }

// bytesOf: a message on the wire.
func bytesOf(t *testing.T, m api.Msg) []byte {
	t.Helper()
	b, err := wire.Encode(m)
	if err != api.OK {
		t.Fatalf("%s is no message: %d", showMsg(m), err)
	}
	return b
}

// show: lists as text; nil and empty are the same.
func show(w api.Write) string {
	return fmt.Sprintf("%d.%d%v%q %v %q", w.Dot.Node, w.Dot.Count, w.Ctx, w.Key, w.Dead, w.Value)
}

func showAll(l []api.Write) string {
	var parts []string
	for _, w := range l {
		parts = append(parts, show(w))
	}
	return "[" + strings.Join(parts, ", ") + "]"
}

func showMsg(m api.Msg) string {
	return fmt.Sprintf("{kind %d, %d to %d, call %d, range %d, owner %d, key %q, dot %v, set %v, writes %s}",
		m.Kind, m.From, m.To, m.Call, m.Range, m.Owner, m.Key, m.Dot, m.Set, showAll(m.Writes))
}

func showDone(d api.Done) string {
	return fmt.Sprintf("{call %d ends, %d, token %v, writes %s}", d.Call, d.Err, d.Token, showAll(d.Writes))
}

func showActs(a api.Acts) string {
	var parts []string
	for _, m := range a.Send {
		parts = append(parts, showMsg(m))
	}
	for _, d := range a.Done {
		parts = append(parts, showDone(d))
	}
	for _, x := range a.Arm {
		parts = append(parts, fmt.Sprintf("arm %+v", x))
	}
	return strings.Join(parts, " ")
}

func showState(s api.State) string {
	text := fmt.Sprintf("clocks %v", s.Clocks)
	for _, l := range s.Keys {
		text += ", key " + showAll(l)
	}
	for _, h := range s.Hints {
		text += fmt.Sprintf(", for %d %s", h.Owner, show(h.Write))
	}
	return text
}

func showSight(s api.Sight) string {
	return fmt.Sprintf("up %v, Gen %d, timers %v, calls %v, %s", s.Up, s.State.Gen, s.Timers, s.Calls, showState(s.State))
}

// check: what holds of all acts: none arms, each message goes through the wire, and comes from the node to another one.
func (p *place) check(a api.Acts) {
	p.t.Helper()
	if len(a.Arm) > 0 {
		p.t.Errorf("acts with timers: %v", a.Arm)
	}
	for _, m := range a.Send {
		bytesOf(p.t, m)
		if m.From != p.me || m.To == p.me || m.To >= p.c.Nodes {
			p.t.Errorf("node %d sends %s", p.me, showMsg(m))
		}
	}
}

// want: OK, and these acts.
func (p *place) want(what string, want api.Acts) func(api.Acts, api.Errno) api.Acts {
	p.t.Helper()
	return func(a api.Acts, err api.Errno) api.Acts {
		p.t.Helper()
		p.check(a)
		if err != api.OK || showActs(a) != showActs(want) {
			p.t.Errorf("%s: %d, %s; want OK, %s", what, err, showActs(a), showActs(want))
		}
		return a
	}
}

// handle hands a message over: OK, and these acts.
func (p *place) handle(m api.Msg, want api.Acts) api.Acts {
	p.t.Helper()
	return p.want("Handle of "+showMsg(m), want)(p.n.Handle(bytesOf(p.t, m)))
}

// sight: all that is to be seen, and how much was written.
func (p *place) sight() string {
	return fmt.Sprintf("%s, %d raw writes", showSight(p.n.See()), p.d.Writes())
}

// wantNo: the call is refused, without acts, and nothing has changed.
func (p *place) wantNo(what string, want api.Errno, call func() (api.Acts, api.Errno)) {
	p.t.Helper()
	was := p.sight()
	a, err := call()
	if err != want || showActs(a) != "" {
		p.t.Errorf("%s: %d, %s; want %d", what, err, showActs(a), want)
	}
	if now := p.sight(); now != was {
		p.t.Errorf("%s: it is refused, and changes\n%s; it was\n%s", what, now, was)
	}
}

// refuses: the message is, and nothing has changed.
func (p *place) refuses(m api.Msg, want api.Errno) {
	p.t.Helper()
	b := bytesOf(p.t, m)
	p.wantNo("Handle of "+showMsg(m), want, func() (api.Acts, api.Errno) { return p.n.Handle(b) })
}

// does: calls without an error, whatever they answer.
func (p *place) does(a api.Acts, err api.Errno) api.Acts {
	p.t.Helper()
	p.check(a)
	if err != api.OK {
		p.t.Fatalf("node %d: %d", p.me, err)
	}
	return a
}

// put: a strict Put with the quorum 1.
func (p *place) put(call int, key string, token ...api.Span) api.Write {
	p.t.Helper()
	a := p.does(p.n.Put(call, key, false, []byte("v"), token, 1, false))
	return a.Done[0].Writes[0]
}

// take: a message is taken, whatever it answers.
func (p *place) take(l ...api.Msg) {
	p.t.Helper()
	for _, m := range l {
		p.does(p.n.Handle(bytesOf(p.t, m)))
	}
}

// fire: the first of its timers that is of this kind.
func (p *place) fire(kind int) (api.Acts, api.Errno) {
	return p.n.Fire(slices.IndexFunc(p.n.See().Timers, func(x api.Timer) bool { return x.Kind == kind }))
}

func (p *place) wantRead(key string, want ...api.Write) {
	p.t.Helper()
	if got := p.n.Read(key); showAll(got) != showAll(want) {
		p.t.Errorf("node %d, siblings of %s: %s; want %s", p.me, key, showAll(got), showAll(want))
	}
}

func (p *place) wantClock(rng int, want ...api.Span) {
	p.t.Helper()
	if got := p.n.Clock(rng); !slices.Equal(got, want) {
		p.t.Errorf("node %d, clock of the range %d: %v; want %v", p.me, rng, got, want)
	}
}

func (p *place) wantHints(want ...api.Hint) {
	p.t.Helper()
	got := showState(api.State{Hints: p.n.See().State.Hints})
	if got != showState(api.State{Hints: want}) {
		p.t.Errorf("node %d keeps %s; want %s", p.me, got, showState(api.State{Hints: want}))
	}
}

func (p *place) wantTimers(want ...api.Timer) {
	p.t.Helper()
	if got := p.n.See().Timers; !slices.Equal(got, want) {
		p.t.Errorf("node %d, timers %v; want %v", p.me, got, want)
	}
}

func (p *place) wantCalls(want ...int) {
	p.t.Helper()
	if got := p.n.See().Calls; !slices.Equal(got, want) {
		p.t.Errorf("node %d, calls %v; want %v", p.me, got, want)
	}
}

func tm(due, number, kind, call int) api.Timer {
	return api.Timer{Due: due, Number: number, Kind: kind, Call: call}
}
