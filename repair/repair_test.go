package repair

import (
	"math"
	"slices"
	"strings"
	"testing"

	"rookery/api"
	"rookery/ring"
	"rookery/store"
	"rookery/wire"
)

func TestP1301Refused(t *testing.T) {
	s := fresh(t, three(), 0).s
	wrong, none := three(), three()
	wrong.Prefer, none.Count = 4, 0
	for _, x := range []struct {
		what string
		s    *store.Store
		c    api.Config
		me   int
		want api.Errno
	}{
		{"no right config", s, wrong, 0, api.ErrArg},
		{"no count", s, none, 0, api.ErrArg},
		{"no right config, no node", s, wrong, 3, api.ErrArg},
		{"no config, no store, no node", nil, api.Config{}, -1, api.ErrArg},
		{"no right config, no store", nil, wrong, 0, api.ErrArg},
		{"one past the nodes", s, three(), 3, api.ErrNode},
		{"one past the nodes, no store", nil, three(), 3, api.ErrNode},
		{"below the nodes", s, three(), -1, api.ErrNode},
		{"far off", s, three(), math.MaxInt, api.ErrNode},
		{"far below", s, three(), math.MinInt, api.ErrNode},
	} {
		if r, err := New(x.s, x.c, x.me); r != nil || err != x.want {
			t.Errorf("New, %s: %v, %d; want nil, %d", x.what, r != nil, err, x.want)
		}
	}
}

// TestP1301DeadStore: New does not ask how the store is; its repair does.
func TestP1301DeadStore(t *testing.T) {
	p := fresh(t, three(), 2)
	p.die(t)
	p.r, _ = New(p.s, three(), 2)
	if p.r == nil {
		t.Fatal("New of a dead store: nil")
	}
	p.wantNo(t, "Time", api.ErrDown, p.r.Time)
}

// TestP1301StoreUntouched: nothing of a repair is on the disk.
func TestP1301StoreUntouched(t *testing.T) {
	p := fresh(t, five(), 2)
	was, wrote := showState(p.s.See()), p.d.Writes()
	r, err := New(p.s, five(), 2)
	if r == nil || err != api.OK {
		t.Fatalf("New: %v, %d", r != nil, err)
	}
	for range 20 {
		_, _ = r.Time()
	}
	if showState(p.s.See()) != was || p.d.Writes() != wrote {
		t.Errorf("%s, %d raw writes; it was %s, %d", showState(p.s.See()), p.d.Writes(), was, wrote)
	}
}

// turn: a range and a peer.
type turn struct{ rng, peer int }

// turnsOf: all pairs of a node, as the chapter says them.
func turnsOf(c api.Config, me int) []turn {
	circle, _ := ring.New(c.Nodes, c.Ranges)
	var out []turn
	for rng := range c.Ranges {
		order, _ := circle.Order(rng)
		first := order[:c.Prefer]
		if !slices.Contains(first, me) {
			continue
		}
		for _, peer := range slices.Sorted(slices.Values(first)) {
			if peer != me {
				out = append(out, turn{rng, peer})
			}
		}
	}
	return out
}

// TestP1302Turns: the pairs of the five nodes, one behind the other, three times round; of one range the lesser peer first, however the range orders them.
func TestP1302Turns(t *testing.T) {
	for me, turns := range [][]turn{
		{{2, 2}, {2, 4}},
		{{0, 2}, {0, 3}, {3, 2}, {3, 3}},
		{{0, 1}, {0, 3}, {1, 3}, {1, 4}, {2, 0}, {2, 4}, {3, 1}, {3, 3}},
		{{0, 1}, {0, 2}, {1, 2}, {1, 4}, {3, 1}, {3, 2}},
		{{1, 2}, {1, 3}, {2, 0}, {2, 2}},
	} {
		p := fresh(t, five(), me)
		for i := range 3 * len(turns) {
			x := turns[i%len(turns)]
			for range 2 { // Next changes nothing
				p.wantNext(t, x.rng, x.peer)
			}
			a, err := p.r.Time()
			wantActs(t, "Time", a, err, clock(me, x.peer, x.rng))
		}
	}
}

// TestP1302EveryConfig: every number of nodes, of preferred ones and of ranges; each pair has its turn, twice round.
func TestP1302EveryConfig(t *testing.T) {
	for nodes := 1; nodes <= api.MaxNodes; nodes++ {
		for prefer := 1; prefer <= min(nodes, api.MaxPrefer); prefer++ {
			for _, ranges := range []int{1, 3, api.MaxRanges} {
				c := three()
				c.Nodes, c.Prefer, c.Ranges = nodes, prefer, ranges
				for _, me := range []int{0, nodes - 1} {
					wantRound(t, fresh(t, c, me))
				}
			}
		}
	}
}

func wantRound(t *testing.T, p *place) {
	t.Helper()
	turns := turnsOf(p.c, p.me)
	for range 2 {
		for _, x := range turns {
			p.wantNext(t, x.rng, x.peer)
			if _, err := p.r.Time(); err != api.OK {
				t.Errorf("Time: %d", err)
			}
		}
	}
	if len(turns) == 0 {
		p.wantNo(t, "Time without a pair", api.ErrPair, p.r.Time)
		if g, n, err := p.r.Next(); g != 0 || n != 0 || err != api.ErrPair {
			t.Errorf("Next without a pair: %d, %d, %d; want ErrPair", g, n, err)
		}
	}
}

// TestP1302OnlyTimeMarks: messages, done or refused, and what is asked of the repair leave the turn where it is.
func TestP1302OnlyTimeMarks(t *testing.T) {
	p := fresh(t, five(), 2)
	if _, err := p.r.Time(); err != api.OK {
		t.Fatalf("Time: %d", err)
	}
	p.mint(t, "g")
	_, _ = p.r.Clock(clock(3, 2, 0))
	_, _ = p.r.Clock(clock(2, 2, 0))
	_, _ = p.r.Ship(ship(3, 2, 0, spans(sp(3, 2))))
	_, _ = p.r.Ship(ship(3, 2, 7, spans(sp(3, 2))))
	p.r.Behind(0, nil)
	p.wantNext(t, 0, 3)
}

// TestP1302DeadStore: whose turn it is is told of a dead store too; a Time that is refused marks nothing.
func TestP1302DeadStore(t *testing.T) {
	p := fresh(t, five(), 2)
	for range 3 {
		_, _ = p.r.Time()
	}
	p.die(t)
	for range 3 {
		p.wantNext(t, 1, 4)
		p.wantNo(t, "Time", api.ErrDown, p.r.Time)
	}
}

// TestP1302FromTheBeginning: a repair that is made anew knows no marks.
func TestP1302FromTheBeginning(t *testing.T) {
	p := fresh(t, five(), 2)
	_, _ = p.r.Time()
	p.wantNext(t, 0, 3)
	other, _ := New(p.s, p.c, 2)
	if g, n, _ := other.Next(); g != 0 || n != 1 {
		t.Errorf("Next of another repair: %d, %d", g, n)
	}
	p.restart(t)
	p.wantNext(t, 0, 1)
}

// TestP1303Time: the store's clock of the range, as it is by then, bits too.
func TestP1303Time(t *testing.T) {
	p := fresh(t, five(), 4)
	p.mint(t, "k")
	p.merge(t, wr("k", 2, 3), wr("p", 0, 1), wr("q", 2, 2))
	wrote := p.d.Writes()
	for _, want := range []api.Msg{
		clock(4, 2, 1, far(2, 0, 4), sp(4, 1)), clock(4, 3, 1, far(2, 0, 4), sp(4, 1)),
		clock(4, 0, 2, sp(0, 1), far(2, 0, 2)), clock(4, 2, 2, sp(0, 1), far(2, 0, 2)),
	} {
		a, err := p.r.Time()
		wantActs(t, "Time", a, err, want)
		if !wire.Valid(a.Send[0]) {
			t.Errorf("%s is no message", showMsg(a.Send[0]))
		}
	}
	if p.d.Writes() != wrote {
		t.Errorf("Time: %d raw writes", p.d.Writes()-wrote)
	}
	p.merge(t, wr("k", 2, 1))
	a, err := p.r.Time()
	wantActs(t, "Time behind a further write", a, err, clock(4, 2, 1, far(2, 1, 2), sp(4, 1)))
}

// TestP1303Down: ErrDown comes ahead of ErrPair.
func TestP1303Down(t *testing.T) {
	for _, c := range []api.Config{alone(), five()} {
		p := fresh(t, c, 0)
		p.die(t)
		p.wantNo(t, "Time", api.ErrDown, p.r.Time)
	}
}

// TestP1303OffNotDead: a store that has not found its disk off yet is not dead: looking goes on.
func TestP1303OffNotDead(t *testing.T) {
	p := fresh(t, three(), 2)
	w := p.mint(t, "g")
	p.d.Off()
	a, err := p.r.Time()
	wantActs(t, "Time", a, err, clock(2, 1, 0, sp(2, 1)))
	a, err = p.r.Clock(clock(1, 2, 0))
	wantActs(t, "Clock", a, err, ship(2, 1, 0, spans(sp(2, 1)), w))
	p.wantNo(t, "Ship of no right message", api.ErrMsg, func() (api.Acts, api.Errno) { return p.r.Ship(clock(1, 2, 0)) })
	if a, err := p.r.Ship(ship(1, 2, 0, nil)); err != api.ErrDown || showActs(a) != "" || !p.s.Dead() {
		t.Errorf("Ship: %d, %s; want ErrDown, and a dead store", err, showActs(a))
	}
	p.wantNo(t, "Clock", api.ErrDown, func() (api.Acts, api.Errno) { return p.r.Clock(clock(1, 2, 0)) })
	p.wantNo(t, "Time", api.ErrDown, p.r.Time)
}

// wrongMsgs: messages to node 2 of five nodes, each wrong in one place.
func wrongMsgs(kind int) map[string]api.Msg {
	out := map[string]api.Msg{"nothing": {}}
	add := func(what string, change func(m *api.Msg)) {
		m := api.Msg{Kind: kind, From: 4, To: 2, Range: 1, Set: spans(sp(0, 5), sp(4, 2))}
		change(&m)
		out[what] = m
	}
	for other := -1; other <= 12; other++ {
		if other != kind {
			add("kind "+string(rune('b'+other)), func(m *api.Msg) { m.Kind = other })
		}
	}
	add("to 4", func(m *api.Msg) { m.To = 4 })
	add("to 1", func(m *api.Msg) { m.To = 1 })
	add("to -1", func(m *api.Msg) { m.To = -1 })
	add("from itself", func(m *api.Msg) { m.From = 2 })
	add("from one that is not preferred", func(m *api.Msg) { m.From = 0 })
	add("from 5", func(m *api.Msg) { m.From = 5 })
	add("from -1", func(m *api.Msg) { m.From = -1 })
	add("from far", func(m *api.Msg) { m.From = math.MaxInt })
	add("another range", func(m *api.Msg) { m.Range = 0 })
	add("range 4", func(m *api.Msg) { m.Range = 4 })
	add("range -1", func(m *api.Msg) { m.Range = -1 })
	add("range far", func(m *api.Msg) { m.Range = math.MinInt })
	add("nodes that fall", func(m *api.Msg) { m.Set = spans(sp(4, 2), sp(0, 5)) })
	add("a node twice", func(m *api.Msg) { m.Set = spans(sp(4, 2), sp(4, 2)) })
	add("an empty span", func(m *api.Msg) { m.Set = spans(sp(4, 0)) })
	add("bit 0", func(m *api.Msg) { m.Set = spans(far(4, 1, 3)) })
	add("a base below 0", func(m *api.Msg) { m.Set = spans(far(4, -1, 2)) })
	add("node -1", func(m *api.Msg) { m.Set = spans(sp(-1, 1)) })
	add("node 5", func(m *api.Msg) { m.Set = spans(sp(0, 1), sp(5, 1)) })
	add("node 8", func(m *api.Msg) { m.Set = spans(sp(8, 1)) })
	add("beyond the gap", func(m *api.Msg) { m.Set = spans(far(4, 2, 1<<6)) })
	add("a base beyond Count", func(m *api.Msg) { m.Set = spans(sp(1, 1001)) })
	add("a bit beyond Count", func(m *api.Msg) { m.Set = spans(far(1, 999, 2)) })
	return out
}

// TestP1304P1305NoMessage: no wrong message does anything; of a dead store ErrDown comes first.
func TestP1304P1305NoMessage(t *testing.T) {
	for _, x := range takers() {
		p := fresh(t, five(), 2)
		p.mint(t, "k")
		dead := fresh(t, five(), 2)
		dead.die(t)
		for what, m := range wrongMsgs(x.kind) {
			p.wantNo(t, x.name+", "+what, api.ErrMsg, func() (api.Acts, api.Errno) { return x.call(p.r, m) })
			dead.wantNo(t, x.name+" of a dead store, "+what, api.ErrDown, func() (api.Acts, api.Errno) { return x.call(dead.r, m) })
		}
		right := api.Msg{Kind: x.kind, From: 4, To: 2, Range: 1, Set: spans(sp(0, 5), sp(4, 2))}
		dead.wantNo(t, x.name+" of a dead store", api.ErrDown, func() (api.Acts, api.Errno) { return x.call(dead.r, right) })
	}
}

// TestP1304P1305EveryPair: from every node, of every range, to every node: just the pairs are taken.
func TestP1304P1305EveryPair(t *testing.T) {
	for me := range 5 {
		p := fresh(t, five(), me)
		turns := turnsOf(p.c, me)
		for from := -1; from <= 6; from++ {
			for rng := -1; rng <= 5; rng++ {
				want := api.ErrMsg
				if slices.Contains(turns, turn{rng, from}) {
					want = api.OK
				}
				for _, x := range takers() {
					m := api.Msg{Kind: x.kind, From: from, To: me, Range: rng}
					if _, err := x.call(p.r, m); err != want {
						t.Errorf("%s of the range %d from %d at %d: %d; want %d", x.name, rng, from, me, err, want)
					}
				}
			}
		}
	}
}

// TestP1304P1305OtherFields: what the kind does not name is not looked at; of Clock the writes too.
func TestP1304P1305OtherFields(t *testing.T) {
	for _, x := range takers() {
		p := fresh(t, five(), 2)
		w := p.mint(t, "k")
		m := api.Msg{Kind: x.kind, From: 4, To: 2, Range: 1, Call: -5, Owner: 99, Key: strings.Repeat("x", 70), Dot: dot(-1, -1)}
		if x.kind == api.MsgShip {
			a, err := p.r.Ship(m)
			wantActs(t, "Ship", a, err)
			continue
		}
		m.Writes = list(wr("", 9, 9), wr("g", 0, 0))
		a, err := p.r.Clock(m)
		wantActs(t, "Clock", a, err, ship(2, 4, 1, spans(sp(2, 1)), w))
	}
}

// TestP1304P1305Edges: sets at their limits are taken.
func TestP1304P1305Edges(t *testing.T) {
	for _, set := range [][]api.Span{
		nil, {}, spans(sp(0, 1000)), spans(sp(4, 1000)), spans(far(4, 2, 1<<5)), spans(far(0, 998, 2)), spans(far(0, 0, 1<<5+2)), spans(sp(0, 1), sp(1, 1), sp(2, 1), sp(3, 1), sp(4, 1)),
	} {
		for _, x := range takers() {
			p := fresh(t, five(), 2)
			if a, err := x.call(p.r, api.Msg{Kind: x.kind, From: 4, To: 2, Range: 1, Set: set}); err != api.OK || showActs(a) != "" {
				t.Errorf("%s with %v: %d, %s; want no acts", x.name, set, err, showActs(a))
			}
		}
	}
}

// TestP1304Ship: the writes of the range alone that the asker lacks, by rising dots over all keys; the clock as it is.
func TestP1304Ship(t *testing.T) {
	p := fresh(t, five(), 4)
	p.mint(t, "p")
	a1, k2 := p.mint(t, "a"), p.mint(t, "k")
	late, first := wr("a", 2, 3), wr("k", 0, 1)
	p.merge(t, late, first, wr("q", 0, 1))
	known := spans(sp(0, 1), far(2, 0, 4), sp(4, 2))
	was, wrote := showState(p.s.See()), p.d.Writes()
	for _, x := range []struct {
		set    []api.Span
		writes []api.Write
	}{
		{nil, list(first, late, a1, k2)},
		{spans(sp(4, 1)), list(first, late, k2)},
		{spans(far(4, 0, 2)), list(first, late, a1)},
		{spans(sp(0, 1), sp(2, 2), sp(4, 2)), list(late)},
		{spans(sp(1, 1000), sp(2, 1000), sp(3, 1000), sp(4, 1)), list(first, k2)},
	} {
		for range 2 {
			a, err := p.r.Clock(clock(3, 4, 1, x.set...))
			wantActs(t, "Clock", a, err, ship(4, 3, 1, known, x.writes...))
			if !wire.Valid(a.Send[0]) {
				t.Errorf("%s is no message", showMsg(a.Send[0]))
			}
		}
	}
	for _, set := range [][]api.Span{known, spans(sp(0, 1), sp(2, 3), sp(4, 2)), spans(sp(0, 7), sp(1, 1), far(2, 1, 2), sp(4, 9))} {
		a, err := p.r.Clock(clock(3, 4, 1, set...))
		wantActs(t, "Clock of one that knows all", a, err)
	}
	if showState(p.s.See()) != was || p.d.Writes() != wrote {
		t.Errorf("Clock has stored something: %s; it was %s", showState(p.s.See()), was)
	}
}

// TestP1304CoveredAlone: where all that the asker lacks is covered by what it has, the clock goes alone.
func TestP1304CoveredAlone(t *testing.T) {
	p := fresh(t, five(), 4)
	p.mint(t, "k")
	w := p.mint(t, "k", sp(4, 1))
	a, err := p.r.Clock(clock(2, 4, 1, far(4, 0, 2)))
	wantActs(t, "Clock", a, err, ship(4, 2, 1, spans(sp(4, 2))))
	a, err = p.r.Clock(clock(2, 4, 1))
	wantActs(t, "Clock of one that knows nothing", a, err, ship(4, 2, 1, spans(sp(4, 2)), w))
}

// TestP1304Full: as many writes as a store holds are one message, which the other one takes.
func TestP1304Full(t *testing.T) {
	c := three()
	c.Ranges, c.Keys, c.Siblings, c.Gap, c.Count = 1, api.MaxKeys, api.MaxSiblings, api.MaxGap, api.MaxCount
	p, q := fresh(t, c, 1), fresh(t, c, 2)
	for i := range api.MaxWrites {
		p.mint(t, "key"+string(rune('A'+i/api.MaxSiblings)))
	}
	a, err := p.r.Clock(clock(2, 1, 0))
	if err != api.OK || len(a.Send) != 1 || len(a.Send[0].Writes) != api.MaxWrites || !wire.Valid(a.Send[0]) {
		t.Fatalf("Clock: %d, %d messages", err, len(a.Send))
	}
	a, err = q.r.Ship(a.Send[0])
	wantActs(t, "Ship", a, err)
	wantSet(t, "behind the shipment", q.s.Clock(0), sp(1, api.MaxWrites))
	if got := len(q.s.See().Keys); got != api.MaxKeys {
		t.Errorf("%d keys", got)
	}
}

// TestP1305Ship: what is new is merged, the clock is the union: one commit; and nothing, where nothing is new.
func TestP1305Ship(t *testing.T) {
	p := fresh(t, five(), 2)
	own := p.mint(t, "k")
	w, u, cover := wr("a", 4, 1), wr("k", 4, 3), gone(wr("k", 4, 4, sp(2, 1), far(4, 0, 4)))
	for _, x := range []struct {
		m   api.Msg
		raw int
	}{
		{ship(4, 2, 1, spans(far(4, 1, 2)), w, u), 13},
		{ship(4, 2, 1, spans(far(4, 1, 2)), w, u), 0},
		{ship(3, 2, 1, spans(far(4, 1, 2)), w, u), 0},
		{ship(3, 2, 1, nil), 0},
		{ship(3, 2, 1, spans(sp(3, 2)), wr("d", 3, 1)), 9},
	} {
		wrote := p.d.Writes()
		a, err := p.r.Ship(x.m)
		wantActs(t, "Ship "+showMsg(x.m), a, err)
		if got := p.d.Writes() - wrote; got != x.raw {
			t.Errorf("Ship %s: %d raw writes; want %d", showMsg(x.m), got, x.raw)
		}
	}
	wantWrites(t, "k", p.s.Read("k"), own, u)
	wantSet(t, "the clock", p.s.Clock(1), sp(2, 1), sp(3, 2), far(4, 1, 2))
	a, err := p.r.Ship(ship(4, 2, 1, spans(far(4, 1, 6)), cover))
	wantActs(t, "Ship of a cover", a, err)
	wantWrites(t, "k", p.s.Read("k"), cover)
	wantSet(t, "the clock", p.s.Clock(1), sp(2, 1), sp(3, 2), far(4, 1, 6))
	p.restart(t)
	wantWrites(t, "k, opened again", p.s.Read("k"), cover)
	wantWrites(t, "a, opened again", p.s.Read("a"), w)
}

// TestP1305NoGap: a shipment goes beyond the gap, as far as it says itself.
func TestP1305NoGap(t *testing.T) {
	p := fresh(t, five(), 2)
	w := wr("k", 4, 900)
	a, err := p.r.Ship(ship(4, 2, 1, spans(sp(4, 900)), w))
	wantActs(t, "Ship", a, err)
	wantWrites(t, "k", p.s.Read("k"), w)
	wantSet(t, "the clock", p.s.Clock(1), sp(4, 900))
}

// TestP1305Refused: the errors of Take; the shipment is refused whole.
func TestP1305Refused(t *testing.T) {
	c := five()
	c.Keys, c.Siblings = 2, 2
	p := fresh(t, c, 2)
	p.mint(t, "k")
	set := spans(sp(3, 3), sp(4, 9))
	no := func(what string, want api.Errno, l ...api.Write) {
		t.Helper()
		p.wantNo(t, "Ship, "+what, want, func() (api.Acts, api.Errno) { return p.r.Ship(ship(4, 2, 1, set, l...)) })
	}
	no("a dot that is not in the set", api.ErrWrite, wr("k", 4, 10))
	no("a node that is not in the set", api.ErrWrite, wr("k", 1, 1))
	no("a key of another range", api.ErrWrite, wr("g", 4, 1))
	no("no key", api.ErrWrite, wr("", 4, 1))
	no("dots that fall", api.ErrWrite, wr("k", 4, 2), wr("k", 3, 1))
	no("a dot twice", api.ErrWrite, wr("k", 4, 2), wr("k", 4, 2))
	no("a wrong one behind a right one", api.ErrWrite, wr("k", 4, 2), wr("k", 4, 3, sp(5, 1)))
	no("three keys", api.ErrKeys, wr("a", 4, 2), wr("d", 4, 3))
	no("three siblings", api.ErrSiblings, wr("k", 4, 2), wr("k", 4, 3))
	a, err := p.r.Ship(ship(4, 2, 1, set, wr("k", 3, 1), wr("k", 3, 2, sp(3, 1)), wr("a", 4, 1)))
	wantActs(t, "Ship at the limits", a, err)
}

// TestP1305PowerFails: at every raw write, whole and torn: the state is that ahead of the shipment or behind it; behind it, where it was answered OK.
func TestP1305PowerFails(t *testing.T) {
	m := ship(4, 2, 1, spans(sp(4, 2)), wr("a", 4, 1), wr("k", 4, 2, sp(2, 1)))
	for after := range 15 {
		for _, torn := range []int{0, 1, 8, 100, 511, 512} {
			p := fresh(t, five(), 2)
			own := p.mint(t, "k")
			p.d.Arm(after, torn)
			a, err := p.r.Ship(m)
			done := err == api.OK
			if done != (after >= 13) || showActs(a) != "" || !done && (err != api.ErrDown || !p.s.Dead()) {
				t.Errorf("power for %d raw writes and %d bytes: %d, %s", after, torn, err, showActs(a))
			}
			p.restart(t)
			if known := p.s.Clock(1); len(known) == 1 && !done {
				wantSet(t, "as it was", known, sp(2, 1))
				wantWrites(t, "k as it was", p.s.Read("k"), own)
				wantWrites(t, "a as it was", p.s.Read("a"))
				continue
			}
			wantSet(t, "behind it", p.s.Clock(1), sp(2, 1), sp(4, 2))
			wantWrites(t, "k behind it", p.s.Read("k"), m.Writes[1])
			wantWrites(t, "a behind it", p.s.Read("a"), m.Writes[0])
		}
	}
}

func TestP1306Behind(t *testing.T) {
	p := fresh(t, five(), 2)
	p.mint(t, "k")
	p.mint(t, "k")
	p.merge(t, wr("k", 4, 3), wr("a", 4, 5), wr("g", 1, 1))
	known := spans(sp(2, 2), far(4, 0, 1<<2|1<<4))
	wantSet(t, "the clock", p.s.Clock(1), known...)
	for _, x := range []struct {
		rng        int
		set        []api.Span
		other, own int
	}{
		{1, nil, 4, 0}, {1, known, 0, 0}, {1, spans(sp(2, 1)), 3, 0}, {1, spans(sp(2, 3)), 2, 1}, {1, spans(sp(4, 3)), 3, 2}, {1, spans(sp(4, 5)), 2, 3},
		{1, spans(far(4, 3, 2)), 2, 2}, {1, spans(sp(2, 2), sp(4, 5)), 0, 3}, {1, spans(sp(0, 1), sp(1, 1), sp(3, 9)), 4, 11},
		{0, nil, 1, 0}, {0, spans(sp(1, 1)), 0, 0}, {2, spans(sp(0, 7)), 0, 7}, {2, nil, 0, 0},
		// sets that no node of this config has: of other nodes, beyond Count, beyond Gap
		{1, spans(sp(7, 3)), 4, 3}, {1, spans(sp(4, api.MaxCount)), 2, api.MaxCount - 2}, {1, spans(far(4, 5, 1<<63)), 2, 4},
		{1, spans(sp(0, api.MaxCount), sp(1, api.MaxCount), sp(2, api.MaxCount), sp(3, api.MaxCount), sp(4, api.MaxCount), sp(5, api.MaxCount), sp(6, api.MaxCount), sp(7, api.MaxCount)), 0, 8*api.MaxCount - 4},
		// no ranges, no sets
		{-1, nil, 0, 0}, {4, spans(sp(1, 1)), 0, 0}, {math.MaxInt, nil, 0, 0}, {math.MinInt, nil, 0, 0},
		{1, spans(sp(2, 0)), 0, 0}, {1, spans(sp(8, 1)), 0, 0}, {1, spans(far(4, 1, 1)), 0, 0}, {1, spans(sp(4, 1), sp(2, 1)), 0, 0}, {1, spans(sp(4, api.MaxCount+1)), 0, 0}, {1, spans(far(4, api.MaxCount, 2)), 0, 0},
	} {
		p.wantBehind(t, x.rng, x.set, x.other, x.own)
	}
}

// TestP1306NotPreferred: of a range that prefers others nothing is told.
func TestP1306NotPreferred(t *testing.T) {
	p := fresh(t, five(), 0)
	for _, rng := range []int{0, 1, 3} {
		p.wantBehind(t, rng, spans(sp(2, 4)), 0, 0)
	}
	p.wantBehind(t, 2, spans(sp(2, 4)), 0, 4)
}

// TestP1306NoPair: a node that has nobody to compare with is asked all the same.
func TestP1306NoPair(t *testing.T) {
	p := fresh(t, alone(), 0)
	p.mint(t, "g")
	p.wantBehind(t, 0, nil, 1, 0)
	p.wantBehind(t, 0, spans(sp(0, 3)), 0, 2)
	p.wantBehind(t, 1, spans(sp(0, 3)), 0, 3)
}

// TestP1306DeadStore: the clock of a dead store has no dots.
func TestP1306DeadStore(t *testing.T) {
	p := fresh(t, five(), 2)
	p.mint(t, "k")
	p.die(t)
	p.wantBehind(t, 1, nil, 0, 0)
	p.wantBehind(t, 1, spans(sp(2, 1), sp(4, 3)), 0, 4)
	p.wantBehind(t, 4, spans(sp(4, 3)), 0, 0)
	p.wantBehind(t, 1, spans(sp(4, 0)), 0, 0)
}

// TestP1306NoChange: asking changes nothing.
func TestP1306NoChange(t *testing.T) {
	p := fresh(t, five(), 2)
	p.mint(t, "k")
	p.wantNo(t, "Behind", api.OK, func() (api.Acts, api.Errno) {
		p.wantBehind(t, 1, spans(sp(4, 2)), 1, 2)
		return api.Acts{}, api.OK
	})
}
