package hints

import (
	"fmt"
	"strings"
	"testing"

	"rookery/api"
	"rookery/disk"
	"rookery/pagefile"
	"rookery/store"
)

// three: the config of the chapter's examples: the order of range 0 is 1 2 0.
func three() api.Config {
	return api.Config{Nodes: 3, Prefer: 2, Ranges: 1, Siblings: 2, Gap: 4, Count: 100, Keys: 2, Hints: 1, Bag: 50}
}

// five: the ranges 0 to 3 prefer 1 3, 2 4, 2 0, 1 3. The keys a d i j k l o lie in 1, p q bb in 2, g h n in 0, b c f m in 3: node 0 minds those of 2, and stands in for the others.
func five() api.Config {
	return api.Config{Nodes: 5, Prefer: 2, Ranges: 4, Siblings: 3, Gap: 6, Count: 1000, Keys: 6, Hints: 6, Bag: 50}
}

// place: a node's disk, its store, and the hands of it.
type place struct {
	c  api.Config
	me int
	d  *disk.Disk
	s  *store.Store
	h  *Hands
}

func fresh(t *testing.T, c api.Config, me int) *place {
	t.Helper()
	d, err := disk.New(pagefile.Sectors)
	if err != api.OK {
		t.Fatalf("a disk: %d", err)
	}
	p := &place{c: c, me: me, d: d}
	p.open(t)
	return p
}

// open opens the store anew, with hands of its own.
func (p *place) open(t *testing.T) {
	t.Helper()
	var err api.Errno
	if p.s, err = store.Open(p.d, p.c, p.me); err != api.OK {
		t.Fatalf("a store of node %d: %d", p.me, err)
	}
	if p.h, err = New(p.s, p.c, p.me); p.h == nil || err != api.OK {
		t.Fatalf("New: %v, %d; want hands", p.h != nil, err)
	}
}

// restart puts the power on, and opens the store anew.
func (p *place) restart(t *testing.T) {
	t.Helper()
	p.d.Arm(-1, 0)
	p.d.On()
	p.open(t)
}

// die lets the store find its disk off; the power is on again, which a dead store does not ask for.
func (p *place) die(t *testing.T) {
	t.Helper()
	p.d.Off()
	if _, err := p.s.Unhint(0, "k", dot(0, 1)); err != api.ErrDown || !p.s.Dead() {
		t.Fatalf("the store lives: %d", err)
	}
	p.d.On()
}

// hint has the store keep a write, past the hands.
func (p *place) hint(t *testing.T, owner int, w api.Write) {
	t.Helper()
	if _, err := p.s.Hint(owner, w); err != api.OK {
		t.Fatalf("the hint for %d: %d", owner, err)
	}
}

func sp(node, base int) api.Span { return api.Span{Node: node, Base: base} }

func spans(l ...api.Span) []api.Span { return l }

func dot(node, count int) api.Dot { return api.Dot{Node: node, Count: count} }

// wr: a write of k with the value v.
func wr(node, count int, ctx ...api.Span) api.Write {
	return api.Write{Dot: dot(node, count), Key: "k", Value: []byte("v"), Ctx: ctx}
}

func of(key string, w api.Write) api.Write {
	w.Key = key
	return w
}

func gone(w api.Write) api.Write {
	w.Dead, w.Value = true, nil
	return w
}

func list(l ...api.Write) []api.Write { return l }

// The five messages, and the one that answers the first.
func keep(from, to, call, owner int, w api.Write) api.Msg {
	return api.Msg{Kind: 3, From: from, To: to, Call: call, Owner: owner, Writes: list(w)}
}

func stored(from, to, call, owner int) api.Msg {
	return api.Msg{Kind: 2, From: from, To: to, Call: call, Owner: owner}
}

func seek(from, to, call, owner int, key string) api.Msg {
	return api.Msg{Kind: 6, From: from, To: to, Call: call, Owner: owner, Key: key}
}

func found(from, to, call, owner int, key string, l ...api.Write) api.Msg {
	return api.Msg{Kind: 7, From: from, To: to, Call: call, Owner: owner, Key: key, Writes: l}
}

func back(from, to int, w api.Write) api.Msg {
	return api.Msg{Kind: 10, From: from, To: to, Writes: list(w)}
}

func took(from, to int, key string, d api.Dot) api.Msg {
	return api.Msg{Kind: 11, From: from, To: to, Key: key, Dot: d}
}

// taker: one of the four calls that take a message.
type taker struct {
	name string
	kind int
	call func(h *Hands, m api.Msg) (api.Acts, api.Errno)
}

func takers() []taker {
	return []taker{{"Keep", 3, (*Hands).Keep}, {"Seek", 6, (*Hands).Seek}, {"Back", 10, (*Hands).Back}, {"Took", 11, (*Hands).Took}}
}

// good: a message to node 0 of the config of five nodes, for each of the four; node 0 does it.
func good(kind int) api.Msg {
	switch kind {
	case 3:
		return keep(1, 0, 7, 3, of("g", wr(1, 2, sp(4, 2))))
	case 6:
		return seek(1, 0, 7, 3, "g")
	case 10:
		return back(1, 0, of("p", wr(2, 1, sp(4, 2))))
	}
	return took(3, 0, "g", dot(1, 1))
}

// show: lists as text; nil and empty are the same.
func show(w api.Write) string {
	return fmt.Sprintf("%d.%d%v%q %v %q", w.Dot.Node, w.Dot.Count, w.Ctx, w.Key, w.Dead, w.Value)
}

func showAll(l []api.Write) string {
	var parts []string
	for _, w := range l {
		parts = append(parts, show(w))
	}
	return "[" + strings.Join(parts, ", ") + "]"
}

func showMsg(m api.Msg) string {
	return fmt.Sprintf("{kind %d, %d to %d, call %d, range %d, owner %d, key %q, dot %v, set %v, writes %s}",
		m.Kind, m.From, m.To, m.Call, m.Range, m.Owner, m.Key, m.Dot, m.Set, showAll(m.Writes))
}

func showActs(a api.Acts) string {
	var parts []string
	for _, m := range a.Send {
		parts = append(parts, showMsg(m))
	}
	for _, x := range a.Arm {
		parts = append(parts, fmt.Sprintf("arm %+v", x))
	}
	for _, x := range a.Done {
		parts = append(parts, fmt.Sprintf("done %+v", x))
	}
	return strings.Join(parts, " ")
}

func showState(s api.State) string {
	text := fmt.Sprintf("Gen %d, clocks %v", s.Gen, s.Clocks)
	for _, l := range s.Keys {
		text += ", key " + showAll(l)
	}
	for _, h := range s.Hints {
		text += fmt.Sprintf(", for %d %s", h.Owner, show(h.Write))
	}
	return text
}

// wantActs: OK, these messages, nothing else.
func wantActs(t *testing.T, what string, got api.Acts, err api.Errno, want ...api.Msg) {
	t.Helper()
	if err != api.OK || showActs(got) != showActs(api.Acts{Send: want}) {
		t.Errorf("%s: %d, %s; want OK, %s", what, err, showActs(got), showActs(api.Acts{Send: want}))
	}
}

// wantNo: the call is refused, without acts, and nothing has changed.
func (p *place) wantNo(t *testing.T, what string, want api.Errno, call func() (api.Acts, api.Errno)) {
	t.Helper()
	was, wrote, dead := showState(p.s.See()), p.d.Writes(), p.s.Dead()
	got, err := call()
	if err != want || showActs(got) != "" {
		t.Errorf("%s: %d, acts %q; want %d", what, err, showActs(got), want)
	}
	if showState(p.s.See()) != was || p.d.Writes() != wrote || p.s.Dead() != dead {
		t.Errorf("%s: it is refused and has changed something: %s; it was %s", what, showState(p.s.See()), was)
	}
}

// wantHints: the store keeps just these.
func (p *place) wantHints(t *testing.T, what string, want ...api.Hint) {
	t.Helper()
	got, all := showState(api.State{Hints: p.s.See().Hints}), showState(api.State{Hints: want})
	if p.s.Dead() || got != all {
		t.Errorf("%s: dead %v, %s; want %s", what, p.s.Dead(), got, all)
	}
}

func hint(owner int, w api.Write) api.Hint { return api.Hint{Owner: owner, Write: w} }

func wantWrites(t *testing.T, what string, got []api.Write, want ...api.Write) {
	t.Helper()
	if showAll(got) != showAll(want) {
		t.Errorf("%s: %s; want %s", what, showAll(got), showAll(want))
	}
}
