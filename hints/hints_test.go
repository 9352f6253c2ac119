package hints

import (
	"math"
	"slices"
	"strings"
	"testing"

	"rookery/api"
	"rookery/store"
	"rookery/wire"
)

func TestP1201Refused(t *testing.T) {
	s := fresh(t, three(), 0).s
	wrong := three()
	wrong.Prefer = 4
	for _, x := range []struct {
		what string
		s    *store.Store
		c    api.Config
		me   int
		want api.Errno
	}{
		{"no store", nil, three(), 0, api.ErrArg},
		{"no store, no node", nil, three(), 3, api.ErrArg},
		{"no right config", s, wrong, 0, api.ErrArg},
		{"no config, no node", s, api.Config{}, 0, api.ErrArg},
		{"one past the nodes", s, three(), 3, api.ErrNode},
		{"below the nodes", s, three(), -1, api.ErrNode},
		{"far off", s, three(), math.MaxInt, api.ErrNode},
		{"far below", s, three(), math.MinInt, api.ErrNode},
	} {
		if h, err := New(x.s, x.c, x.me); h != nil || err != x.want {
			t.Errorf("New, %s: %v, %d; want nil, %d", x.what, h != nil, err, x.want)
		}
	}
}

// TestP1201EveryNode: the hands answer as the node that they were made for, at every number of a node.
func TestP1201EveryNode(t *testing.T) {
	for me := range 5 {
		p := fresh(t, five(), me)
		a, err := p.h.Seek(seek(4, me, 1, 2, "k"))
		wantActs(t, "Seek", a, err, found(me, 4, 1, 2, "k"))
	}
}

// TestP1201DeadStore: New does not ask how the store is; its hands do.
func TestP1201DeadStore(t *testing.T) {
	p := fresh(t, three(), 0)
	p.die(t)
	h, err := New(p.s, three(), 0)
	if h == nil || err != api.OK {
		t.Fatalf("New: %v, %d; want hands", h != nil, err)
	}
	p.wantNo(t, "Time", api.ErrDown, h.Time)
}

// TestP1201OthersAreSeen: what others do with the store is seen, other hands of it among them.
func TestP1201OthersAreSeen(t *testing.T) {
	p := fresh(t, five(), 0)
	w, u := of("g", wr(1, 1)), of("b", wr(3, 1))
	p.hint(t, 3, w)
	other, _ := New(p.s, p.c, 0)
	if _, err := other.Keep(keep(3, 0, 1, 1, u)); err != api.OK {
		t.Fatalf("Keep: %d", err)
	}
	a, err := p.h.Time()
	wantActs(t, "Time", a, err, back(0, 1, u), back(0, 3, w))
	if _, err := p.s.Unhint(1, "b", u.Dot); err != api.OK {
		t.Fatalf("Unhint: %d", err)
	}
	a, err = other.Time()
	wantActs(t, "Time of the other hands", a, err, back(0, 3, w))
}

// spoiltMsgs: each a message that is wrong in one place.
func spoiltMsgs(kind int) map[string]api.Msg {
	out := map[string]api.Msg{"nothing": {}}
	add := func(what string, change func(m *api.Msg)) {
		m := good(kind)
		change(&m)
		out[what] = m
	}
	add("to 1", func(m *api.Msg) { m.To = 1 })
	add("to -1", func(m *api.Msg) { m.To = -1 })
	add("to 8", func(m *api.Msg) { m.To = 8 })
	add("from 5", func(m *api.Msg) { m.From = 5 })
	add("from 8", func(m *api.Msg) { m.From = 8 })
	add("from -1", func(m *api.Msg) { m.From = -1 })
	add("from far", func(m *api.Msg) { m.From = math.MaxInt })
	add("a range", func(m *api.Msg) { m.Range = 1 })
	add("a set", func(m *api.Msg) { m.Set = spans(sp(0, 1)) })
	add("a call far off", func(m *api.Msg) { m.Call = api.MaxCalls + 1 })
	add("a call below", func(m *api.Msg) { m.Call = -1 })
	add("owner 8", func(m *api.Msg) { m.Owner = 8 })
	add("owner -1", func(m *api.Msg) { m.Owner = -1 })
	add("a long key", func(m *api.Msg) { m.Key = strings.Repeat("x", 17) })
	add("a wrong dot", func(m *api.Msg) { m.Dot.Node = 8 })
	add("two writes", func(m *api.Msg) { m.Writes = list(of("g", wr(1, 1)), of("g", wr(1, 2))) })
	add("a wrong write", func(m *api.Msg) { m.Writes = list(of("", wr(1, 1))) })
	for other := -1; other <= 12; other++ {
		if other != kind {
			add("another kind", func(m *api.Msg) { m.Kind = other })
		}
	}
	switch kind {
	case 3, 10:
		add("no write", func(m *api.Msg) { m.Writes = nil })
		add("a key", func(m *api.Msg) { m.Key = m.Writes[0].Key })
		add("a dot", func(m *api.Msg) { m.Dot = m.Writes[0].Dot })
		add("a write that knows itself", func(m *api.Msg) { m.Writes[0].Ctx = spans(sp(1, 9), sp(2, 9)) })
	case 6, 11:
		add("no key", func(m *api.Msg) { m.Key = "" })
		add("a write", func(m *api.Msg) { m.Writes = list(of("g", wr(1, 1))) })
	}
	if kind == 10 || kind == 11 {
		add("a call", func(m *api.Msg) { m.Call = 7 })
		add("an owner", func(m *api.Msg) { m.Owner = 3 })
	}
	return out
}

// TestP1202NoMessage: no wrong message does anything, at a living store and at a dead one: ErrMsg comes first.
func TestP1202NoMessage(t *testing.T) {
	for _, x := range takers() {
		p := fresh(t, five(), 0)
		p.hint(t, 3, of("g", wr(1, 1)))
		dead := fresh(t, five(), 0)
		dead.die(t)
		for what, m := range spoiltMsgs(x.kind) {
			p.wantNo(t, x.name+", "+what, api.ErrMsg, func() (api.Acts, api.Errno) { return x.call(p.h, m) })
			dead.wantNo(t, x.name+" of a dead store, "+what, api.ErrMsg, func() (api.Acts, api.Errno) { return x.call(dead.h, m) })
		}
	}
}

// TestP1202OtherKinds: a right message of each other kind is refused.
func TestP1202OtherKinds(t *testing.T) {
	w := of("g", wr(1, 1))
	all := []api.Msg{
		{Kind: 1, From: 1, Call: 7, Writes: list(w)}, stored(1, 0, 7, 3), good(3), {Kind: 4, From: 1, Call: 7, Key: "g"}, {Kind: 5, From: 1, Call: 7, Key: "g", Writes: list(w)}, good(6), found(1, 0, 7, 3, "g", w), {Kind: 8, From: 1}, {Kind: 9, From: 1, Writes: list(w)}, good(10), good(11),
	}
	for _, x := range takers() {
		p := fresh(t, five(), 0)
		for _, m := range all {
			if !wire.Valid(m) {
				t.Fatalf("%s is no message", showMsg(m))
			}
			if m.Kind != x.kind {
				p.wantNo(t, x.name+showMsg(m), api.ErrMsg, func() (api.Acts, api.Errno) { return x.call(p.h, m) })
			}
		}
	}
}

// TestP1202Down: of a dead store each call answers ErrDown, ahead of what the store would say of the message; its disk is on again, and is not asked.
func TestP1202Down(t *testing.T) {
	p := fresh(t, five(), 0)
	p.hint(t, 3, of("g", wr(1, 1)))
	p.die(t)
	for _, x := range takers() {
		p.wantNo(t, x.name, api.ErrDown, func() (api.Acts, api.Errno) { return x.call(p.h, good(x.kind)) })
	}
	p.wantNo(t, "Keep for 0", api.ErrDown, func() (api.Acts, api.Errno) { return p.h.Keep(keep(1, 0, 7, 0, of("g", wr(1, 1)))) })
	p.wantNo(t, "Back of g", api.ErrDown, func() (api.Acts, api.Errno) { return p.h.Back(back(1, 0, of("g", wr(1, 1)))) })
}

// TestP1202EverySender: all nodes may send, up to the last, and a node to itself.
func TestP1202EverySender(t *testing.T) {
	for from := range 5 {
		p := fresh(t, five(), 0)
		w, u := of("g", wr(1, 1)), of("p", wr(2, 1))
		a, err := p.h.Keep(keep(from, 0, 4096, 3, w))
		wantActs(t, "Keep", a, err, stored(0, from, 4096, 3))
		a, err = p.h.Seek(seek(from, 0, 0, 3, "g"))
		wantActs(t, "Seek", a, err, found(0, from, 0, 3, "g", w))
		a, err = p.h.Back(back(from, 0, u))
		wantActs(t, "Back", a, err, took(0, from, "p", u.Dot))
		a, err = p.h.Took(took(from, 0, "g", w.Dot))
		wantActs(t, "Took", a, err)
		if from == 3 {
			p.wantHints(t, "Took")
		} else {
			p.wantHints(t, "Took", hint(3, w))
		}
	}
}

// TestP1202OffNotDead: a store that has not found its disk off yet is not dead: looking goes on, writing does not.
func TestP1202OffNotDead(t *testing.T) {
	w := of("g", wr(1, 1))
	for _, x := range takers() {
		p := fresh(t, five(), 0)
		p.hint(t, 3, w)
		p.d.Off()
		a, err := p.h.Seek(seek(1, 0, 7, 3, "g"))
		wantActs(t, "Seek", a, err, found(0, 1, 7, 3, "g", w))
		a, err = p.h.Time()
		wantActs(t, "Time", a, err, back(0, 3, w))
		if x.kind == api.MsgSeek {
			continue
		}
		if a, err := x.call(p.h, good(x.kind)); err != api.ErrDown || showActs(a) != "" || !p.s.Dead() {
			t.Errorf("%s: %d, %s; want ErrDown, and a dead store", x.name, err, showActs(a))
		}
		p.wantNo(t, "Time", api.ErrDown, p.h.Time)
		p.wantNo(t, "Seek", api.ErrDown, func() (api.Acts, api.Errno) { return p.h.Seek(seek(1, 0, 7, 3, "g")) })
	}
}

func TestP1203Keep(t *testing.T) {
	p := fresh(t, five(), 0)
	w, u, v := of("g", wr(1, 1)), gone(of("g", wr(1, 2, sp(1, 1)))), of("b", wr(0, 999, sp(3, 4)))
	for i, x := range []struct {
		owner int
		w     api.Write
		raw   int
	}{{3, w, 5}, {3, u, 5}, {1, w, 5}, {1, v, 5}, {3, w, 0}, {1, v, 0}, {3, v, 5}} {
		wrote := p.d.Writes()
		a, err := p.h.Keep(keep(4, 0, i, x.owner, x.w))
		wantActs(t, "Keep", a, err, stored(0, 4, i, x.owner))
		if got := p.d.Writes() - wrote; got != x.raw {
			t.Errorf("Keep %d: %d raw writes; want %d", i, got, x.raw)
		}
	}
	want := []api.Hint{hint(1, v), hint(1, w), hint(3, v), hint(3, w), hint(3, u)}
	p.wantHints(t, "Keep", want...)
	p.restart(t)
	p.wantHints(t, "opened again", want...)
}

// TestP1203KnownDot: a hint that has owner, key and dot in common with a kept one is answered, whatever else it says; the kept one stays.
func TestP1203KnownDot(t *testing.T) {
	p := fresh(t, five(), 0)
	w := of("g", wr(1, 1))
	p.hint(t, 3, w)
	a, err := p.h.Keep(keep(1, 0, 7, 3, gone(w)))
	wantActs(t, "Keep", a, err, stored(0, 1, 7, 3))
	p.wantHints(t, "Keep", hint(3, w))
}

func TestP1203Refused(t *testing.T) {
	c := five()
	c.Hints = 2
	p := fresh(t, c, 0)
	w := of("g", wr(1, 1))
	p.hint(t, 3, w)
	no := func(what string, want api.Errno, owner int, w api.Write) {
		t.Helper()
		p.wantNo(t, "Keep, "+what, want, func() (api.Acts, api.Errno) { return p.h.Keep(keep(1, 0, 7, owner, w)) })
	}
	no("a node too far", api.ErrWrite, 3, of("g", wr(5, 1)))
	no("a count too far, for itself", api.ErrWrite, 0, of("g", wr(1, 1001)))
	no("a context of a node too far", api.ErrWrite, 3, of("g", wr(1, 1, sp(5, 1))))
	no("for itself", api.ErrNode, 0, of("g", wr(1, 2)))
	no("for no node", api.ErrNode, 5, of("g", wr(1, 2)))
	no("for one that is not preferred", api.ErrMine, 2, of("g", wr(1, 2)))
	no("of a range that prefers the keeper", api.ErrMine, 2, of("p", wr(2, 1)))
	p.hint(t, 1, w)
	no("no room", api.ErrHints, 3, of("g", wr(1, 2)))
	a, err := p.h.Keep(keep(1, 0, 7, 3, w))
	wantActs(t, "Keep of what is kept, without room", a, err, stored(0, 1, 7, 3))
}

func TestP1203NoHints(t *testing.T) {
	c := five()
	c.Hints = 0
	p := fresh(t, c, 0)
	p.wantNo(t, "Keep", api.ErrHints, func() (api.Acts, api.Errno) { return p.h.Keep(good(3)) })
}

// TestP1203PowerFails: at every raw write: what is answered is kept; what is not may be.
func TestP1203PowerFails(t *testing.T) {
	for after := range 7 {
		p := fresh(t, five(), 0)
		m := good(3)
		p.d.Arm(after, 100)
		a, err := p.h.Keep(m)
		if after < 5 && (err != api.ErrDown || showActs(a) != "" || !p.s.Dead()) {
			t.Errorf("behind %d raw writes: %d, %s; want ErrDown", after, err, showActs(a))
		}
		if after >= 5 {
			wantActs(t, "Keep", a, err, stored(0, 1, 7, 3))
		}
		p.restart(t)
		if after < 5 {
			p.wantHints(t, "opened again")
		} else {
			p.wantHints(t, "opened again", hint(3, m.Writes[0]))
		}
	}
}

func TestP1204Seek(t *testing.T) {
	p := fresh(t, five(), 0)
	w, u, v := of("g", wr(3, 1)), of("g", wr(1, 12)), of("g", wr(1, 2, sp(1, 1)))
	for _, x := range list(w, u, v, of("h", wr(1, 3))) {
		p.hint(t, 3, x)
	}
	p.hint(t, 1, of("g", wr(1, 4)))
	a, err := p.h.Seek(seek(2, 0, 5, 3, "g"))
	wantActs(t, "Seek", a, err, found(0, 2, 5, 3, "g", v, u, w))
	a, err = p.h.Seek(seek(2, 0, 0, 3, "h"))
	wantActs(t, "Seek of h", a, err, found(0, 2, 0, 3, "h", of("h", wr(1, 3))))
	for _, owner := range []int{0, 2, 4, 5, 7} { // an owner that is no node has nothing kept
		a, err = p.h.Seek(seek(2, 0, 5, owner, "g"))
		wantActs(t, "Seek for another", a, err, found(0, 2, 5, owner, "g"))
	}
}

// TestP1204NoSibling: what the node stores as its own is not kept for others.
func TestP1204NoSibling(t *testing.T) {
	p := fresh(t, five(), 0)
	if _, err := p.s.Mint("p", false, nil, nil); err != api.OK {
		t.Fatalf("Mint: %d", err)
	}
	for owner := range 5 {
		a, err := p.h.Seek(seek(1, 0, 5, owner, "p"))
		wantActs(t, "Seek", a, err, found(0, 1, 5, owner, "p"))
	}
	a, err := p.h.Time()
	wantActs(t, "Time", a, err)
}

// TestP1204Full: as many as a store keeps are one message.
func TestP1204Full(t *testing.T) {
	c := five()
	c.Hints = api.MaxHints
	p := fresh(t, c, 0)
	var want []api.Write
	for i := range api.MaxHints {
		w := of("g", wr(1+2*(i%2), 1+i))
		w.Value = []byte(strings.Repeat("v", api.MaxValue))
		want = append(want, w)
		p.hint(t, 3, w)
	}
	slices.SortStableFunc(want, func(a, b api.Write) int { return a.Dot.Node - b.Dot.Node })
	a, err := p.h.Seek(seek(2, 0, 5, 3, "g"))
	wantActs(t, "Seek", a, err, found(0, 2, 5, 3, "g", want...))
	if !wire.Valid(a.Send[0]) {
		t.Error("what is found is no message")
	}
	a, err = p.h.Time()
	if err != api.OK || len(a.Send) != api.MaxHints {
		t.Errorf("Time: %d messages, %d", len(a.Send), err)
	}
}

// TestP1205Time: in the order of the store's See: owners, then keys, then dots; and again, as long as nobody took it.
func TestP1205Time(t *testing.T) {
	p := fresh(t, five(), 0)
	w, u, v := of("g", wr(3, 1)), of("g", wr(1, 12)), gone(of("b", wr(3, 2, sp(1, 1))))
	p.hint(t, 3, w)
	p.hint(t, 1, w)
	p.hint(t, 3, u)
	p.hint(t, 3, v)
	p.hint(t, 2, of("d", wr(4, 9)))
	wrote := p.d.Writes()
	for range 3 {
		a, err := p.h.Time()
		wantActs(t, "Time", a, err, back(0, 1, w), back(0, 2, of("d", wr(4, 9))), back(0, 3, v), back(0, 3, u), back(0, 3, w))
		for _, m := range a.Send {
			if !wire.Valid(m) {
				t.Errorf("%s is no message", showMsg(m))
			}
		}
	}
	if p.d.Writes() != wrote {
		t.Errorf("Time: %d raw writes", p.d.Writes()-wrote)
	}
	p.restart(t)
	a, err := p.h.Time()
	if err != api.OK || len(a.Send) != 5 {
		t.Errorf("Time of the store opened again: %d, %s", err, showActs(a))
	}
}

func TestP1205Nothing(t *testing.T) {
	p := fresh(t, five(), 0)
	a, err := p.h.Time()
	wantActs(t, "Time", a, err)
}

// TestP1205Left: what tells the messages ends where nobody wants more of them.
func TestP1205Left(t *testing.T) {
	p := fresh(t, five(), 0)
	n := 0
	for m := range p.h.handing([]api.Hint{hint(3, wr(1, 1)), hint(1, wr(1, 2))}) {
		if n++; m.To != 3 {
			t.Errorf("to %d", m.To)
		}
		break
	}
	if n != 1 {
		t.Errorf("%d messages", n)
	}
}

func TestP1206Back(t *testing.T) {
	p := fresh(t, five(), 0)
	w, u := of("p", wr(2, 1)), gone(of("p", wr(2, 2, sp(2, 1))))
	for _, x := range []struct {
		w    api.Write
		raw  int
		left []api.Write
	}{{w, 9, list(w)}, {w, 0, list(w)}, {u, 9, list(u)}, {w, 0, list(u)}, {of("p", wr(2, 2)), 0, list(u)}} {
		wrote := p.d.Writes()
		a, err := p.h.Back(back(4, 0, x.w))
		wantActs(t, "Back", a, err, took(0, 4, "p", x.w.Dot))
		wantWrites(t, "Back", p.s.Read("p"), x.left...)
		if got := p.d.Writes() - wrote; got != x.raw {
			t.Errorf("Back of %s: %d raw writes; want %d", show(x.w), got, x.raw)
		}
	}
	if got := p.s.Clock(2); !slices.Equal(got, spans(sp(2, 2))) {
		t.Errorf("the clock is %v", got)
	}
}

// TestP1206Refused: what the owner does not take is not answered.
func TestP1206Refused(t *testing.T) {
	c := five()
	c.Keys, c.Siblings = 1, 1
	p := fresh(t, c, 4)
	no := func(what string, want api.Errno, w api.Write) {
		t.Helper()
		p.wantNo(t, "Back, "+what, want, func() (api.Acts, api.Errno) { return p.h.Back(back(0, 4, w)) })
	}
	no("a node too far", api.ErrWrite, wr(5, 1))
	no("a count too far", api.ErrWrite, wr(4, 1001))
	no("another one's range", api.ErrMine, of("g", wr(1, 1)))
	no("beyond the gap", api.ErrGap, wr(2, 7))
	a, err := p.h.Back(back(0, 4, wr(2, 6)))
	wantActs(t, "Back at the gap", a, err, took(4, 0, "k", dot(2, 6)))
	no("one key too many", api.ErrKeys, of("a", wr(2, 5)))
	no("one sibling too many", api.ErrSiblings, wr(2, 5))
}

// TestP1206PowerFails: what is answered lasts.
func TestP1206PowerFails(t *testing.T) {
	for after := range 11 {
		p := fresh(t, five(), 0)
		m := good(10)
		p.d.Arm(after, 100)
		a, err := p.h.Back(m)
		if after < 9 && (err != api.ErrDown || showActs(a) != "" || !p.s.Dead()) {
			t.Errorf("behind %d raw writes: %d, %s; want ErrDown", after, err, showActs(a))
		}
		if after >= 9 {
			wantActs(t, "Back", a, err, took(0, 1, "p", dot(2, 1)))
		}
		p.restart(t)
		if after < 9 {
			wantWrites(t, "opened again", p.s.Read("p"))
		} else {
			wantWrites(t, "opened again", p.s.Read("p"), m.Writes[0])
		}
	}
}

// TestP1207Took: only what has owner, key and dot in common goes, once.
func TestP1207Took(t *testing.T) {
	p := fresh(t, five(), 0)
	w, u, v := of("g", wr(1, 1)), of("g", wr(1, 2)), of("b", wr(1, 1))
	want := []api.Hint{hint(1, w), hint(3, v), hint(3, w), hint(3, u)}
	for _, x := range want {
		p.hint(t, x.Owner, x.Write)
	}
	for _, m := range []api.Msg{
		took(2, 0, "g", dot(1, 1)), took(0, 0, "g", dot(1, 1)), took(3, 0, "h", dot(1, 1)), took(3, 0, "g", dot(1, 3)), took(3, 0, "g", dot(3, 1)), took(1, 0, "b", dot(1, 1)), took(3, 0, "g", dot(7, 1<<20)),
	} {
		wrote := p.d.Writes()
		a, err := p.h.Took(m)
		wantActs(t, "Took "+showMsg(m), a, err)
		p.wantHints(t, "Took "+showMsg(m), want...)
		if p.d.Writes() != wrote {
			t.Errorf("Took %s: %d raw writes", showMsg(m), p.d.Writes()-wrote)
		}
	}
	for i, raw := range []int{1, 0} {
		wrote := p.d.Writes()
		a, err := p.h.Took(took(3, 0, "g", dot(1, 1)))
		wantActs(t, "Took", a, err)
		p.wantHints(t, "Took", hint(1, w), hint(3, v), hint(3, u))
		if got := p.d.Writes() - wrote; got != raw {
			t.Errorf("Took, time %d: %d raw writes; want %d", i, got, raw)
		}
	}
	p.restart(t)
	p.wantHints(t, "opened again", hint(1, w), hint(3, v), hint(3, u))
}

func TestP1207PowerFails(t *testing.T) {
	for torn := range 513 {
		if torn > 20 && torn < 500 {
			continue
		}
		p := fresh(t, five(), 0)
		w := of("g", wr(1, 1))
		p.hint(t, 3, w)
		p.d.Arm(0, torn)
		a, err := p.h.Took(good(11))
		if err != api.ErrDown || showActs(a) != "" || !p.s.Dead() {
			t.Errorf("torn at %d: %d, %s; want ErrDown", torn, err, showActs(a))
		}
		p.restart(t)
		if torn == 512 {
			p.wantHints(t, "the root is whole")
		} else if left := len(p.s.See().Hints); left > 1 || torn < 9 && left != 1 {
			t.Errorf("torn at %d: %d hints", torn, left)
		}
	}
}
