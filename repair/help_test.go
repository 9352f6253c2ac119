package repair

import (
	"fmt"
	"strings"
	"testing"

	"rookery/api"
	"rookery/disk"
	"rookery/pagefile"
	"rookery/store"
)

// three: the config of the chapter's examples: the ranges 0 and 1 prefer 1 2 and 2 0. The keys g h n p lie in 0, a b c d k in 1.
func three() api.Config {
	return api.Config{Nodes: 3, Prefer: 2, Ranges: 2, Siblings: 2, Gap: 4, Count: 100, Keys: 3, Hints: 1, Bag: 9}
}

// five: the ranges 0 to 3 prefer 1 3 2, 2 4 3, 2 0 4, 1 3 2: node 2 minds them all. The keys g h n lie in 0, a d k in 1, p q in 2, b c f in 3.
func five() api.Config {
	return api.Config{Nodes: 5, Prefer: 3, Ranges: 4, Siblings: 3, Gap: 6, Count: 1000, Keys: 6, Hints: 2, Bag: 50}
}

// alone: one node, which minds all.
func alone() api.Config {
	c := three()
	c.Nodes, c.Prefer = 1, 1
	return c
}

// place: a node's disk, its store, and the repair of it.
type place struct {
	c  api.Config
	me int
	d  *disk.Disk
	s  *store.Store
	r  *Repair
}

func fresh(t *testing.T, c api.Config, me int) *place {
	t.Helper()
	d, err := disk.New(pagefile.Sectors)
	if err != api.OK {
		t.Fatalf("a disk: %d", err)
	}
	p := &place{c: c, me: me, d: d}
	p.open(t)
	return p
}

// open opens the store anew, with a repair of its own.
func (p *place) open(t *testing.T) {
	t.Helper()
	var err api.Errno
	if p.s, err = store.Open(p.d, p.c, p.me); err != api.OK {
		t.Fatalf("a store of node %d: %d", p.me, err)
	}
	if p.r, err = New(p.s, p.c, p.me); p.r == nil || err != api.OK {
		t.Fatalf("New: %v, %d; want a repair", p.r != nil, err)
	}
}

// restart puts the power on, and opens the store anew.
func (p *place) restart(t *testing.T) {
	t.Helper()
	p.d.Arm(-1, 0)
	p.d.On()
	p.open(t)
}

// die lets the store find its disk off; the power is on again, which a dead store does not ask for.
func (p *place) die(t *testing.T) {
	t.Helper()
	p.d.Off()
	if _, err := p.s.Unhint(0, "k", dot(0, 1)); err != api.ErrDown || !p.s.Dead() {
		t.Fatalf("the store lives: %d", err)
	}
	p.d.On()
}

// mint makes a write of the node's own, past the repair.
func (p *place) mint(t *testing.T, key string, ctx ...api.Span) api.Write {
	t.Helper()
	w, err := p.s.Mint(key, false, []byte("v"), ctx)
	if err != api.OK {
		t.Fatalf("Mint of %s: %d", key, err)
	}
	return w
}

// merge has the store take writes, past the repair.
func (p *place) merge(t *testing.T, l ...api.Write) {
	t.Helper()
	for _, w := range l {
		if _, err := p.s.Merge(w); err != api.OK {
			t.Fatalf("Merge of %s: %d", show(w), err)
		}
	}
}

func sp(node, base int) api.Span { return api.Span{Node: node, Base: base} }

// far: a span with counts beyond its base.
func far(node, base int, bits uint64) api.Span { return api.Span{Node: node, Base: base, Bits: bits} }

func spans(l ...api.Span) []api.Span { return l }

func dot(node, count int) api.Dot { return api.Dot{Node: node, Count: count} }

// wr: a write with the value v.
func wr(key string, node, count int, ctx ...api.Span) api.Write {
	return api.Write{Dot: dot(node, count), Key: key, Value: []byte("v"), Ctx: ctx}
}

func gone(w api.Write) api.Write {
	w.Dead, w.Value = true, nil
	return w
}

func list(l ...api.Write) []api.Write { return l }

func clock(from, to, rng int, set ...api.Span) api.Msg {
	return api.Msg{Kind: 8, From: from, To: to, Range: rng, Set: set}
}

func ship(from, to, rng int, set []api.Span, l ...api.Write) api.Msg {
	return api.Msg{Kind: 9, From: from, To: to, Range: rng, Set: set, Writes: l}
}

// taker: one of the two calls that take a message.
type taker struct {
	name string
	kind int
	call func(r *Repair, m api.Msg) (api.Acts, api.Errno)
}

func takers() []taker { return []taker{{"Clock", 8, (*Repair).Clock}, {"Ship", 9, (*Repair).Ship}} }

// show: lists as text; nil and empty are the same.
func show(w api.Write) string {
	return fmt.Sprintf("%d.%d%v%q %v %q", w.Dot.Node, w.Dot.Count, w.Ctx, w.Key, w.Dead, w.Value)
}

func showAll(l []api.Write) string {
	var parts []string
	for _, w := range l {
		parts = append(parts, show(w))
	}
	return "[" + strings.Join(parts, ", ") + "]"
}

func showMsg(m api.Msg) string {
	return fmt.Sprintf("{kind %d, %d to %d, call %d, range %d, owner %d, key %q, dot %v, set %v, writes %s}",
		m.Kind, m.From, m.To, m.Call, m.Range, m.Owner, m.Key, m.Dot, m.Set, showAll(m.Writes))
}

func showActs(a api.Acts) string {
	var parts []string
	for _, m := range a.Send {
		parts = append(parts, showMsg(m))
	}
	for _, x := range a.Arm {
		parts = append(parts, fmt.Sprintf("arm %+v", x))
	}
	for _, x := range a.Done {
		parts = append(parts, fmt.Sprintf("done %+v", x))
	}
	return strings.Join(parts, " ")
}

func showState(s api.State) string {
	text := fmt.Sprintf("Gen %d, clocks %v", s.Gen, s.Clocks)
	for _, l := range s.Keys {
		text += ", key " + showAll(l)
	}
	for _, h := range s.Hints {
		text += fmt.Sprintf(", for %d %s", h.Owner, show(h.Write))
	}
	return text
}

// wantActs: OK, these messages, nothing else.
func wantActs(t *testing.T, what string, got api.Acts, err api.Errno, want ...api.Msg) {
	t.Helper()
	if err != api.OK || showActs(got) != showActs(api.Acts{Send: want}) {
		t.Errorf("%s: %d, %s; want OK, %s", what, err, showActs(got), showActs(api.Acts{Send: want}))
	}
}

// wantNo: the call is refused, without acts, and nothing has changed.
func (p *place) wantNo(t *testing.T, what string, want api.Errno, call func() (api.Acts, api.Errno)) {
	t.Helper()
	was, wrote, dead := showState(p.s.See()), p.d.Writes(), p.s.Dead()
	rng, peer, turn := p.r.Next()
	got, err := call()
	if err != want || showActs(got) != "" {
		t.Errorf("%s: %d, acts %q; want %d", what, err, showActs(got), want)
	}
	if showState(p.s.See()) != was || p.d.Writes() != wrote || p.s.Dead() != dead {
		t.Errorf("%s: it is refused and has changed something: %s; it was %s", what, showState(p.s.See()), was)
	}
	if g, n, e := p.r.Next(); g != rng || n != peer || e != turn {
		t.Errorf("%s: it is refused, and the turn went on to %d, %d, %d", what, g, n, e)
	}
}

func (p *place) wantNext(t *testing.T, rng, peer int) {
	t.Helper()
	if g, n, err := p.r.Next(); g != rng || n != peer || err != api.OK {
		t.Errorf("Next: %d, %d, %d; want %d, %d, OK", g, n, err, rng, peer)
	}
}

func (p *place) wantBehind(t *testing.T, rng int, set []api.Span, other, own int) {
	t.Helper()
	if a, b := p.r.Behind(rng, set); a != other || b != own {
		t.Errorf("Behind(%d, %v): %d and %d; want %d and %d", rng, set, a, b, other, own)
	}
}

func wantSet(t *testing.T, what string, got []api.Span, want ...api.Span) {
	t.Helper()
	if fmt.Sprint(got) != fmt.Sprint(want) {
		t.Errorf("%s: %v; want %v", what, got, want)
	}
}

func wantWrites(t *testing.T, what string, got []api.Write, want ...api.Write) {
	t.Helper()
	if showAll(got) != showAll(want) {
		t.Errorf("%s: %s; want %s", what, showAll(got), showAll(want))
	}
}
