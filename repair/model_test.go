package repair

import (
	"math/rand"
	"slices"
	"testing"

	"rookery/api"
	"rookery/store"
)

// plain: what the repair of a node does, said by the chapter's rules on a store of its own: pairs in a list, sets as single dots.
type plain struct {
	c     api.Config
	me    int
	s     *store.Store
	turns []turn
	marks map[turn]int
	times int
}

func plainOf(p *place) *plain {
	return &plain{c: p.c, me: p.me, s: p.s, turns: turnsOf(p.c, p.me), marks: map[turn]int{}}
}

// next: the first of the pairs, which rise, that has the least mark.
func (p *plain) next() (turn, bool) {
	var out turn
	for i, x := range p.turns {
		if i == 0 || p.marks[x] < p.marks[out] {
			out = x
		}
	}
	return out, len(p.turns) > 0
}

func (p *plain) time() ([]api.Msg, api.Errno) {
	if p.s.Dead() {
		return nil, 3
	}
	x, ok := p.next()
	if !ok {
		return nil, 130
	}
	p.times++
	p.marks[x] = p.times
	return []api.Msg{{Kind: 8, From: p.me, To: x.peer, Range: x.rng, Set: p.s.Clock(x.rng)}}, 0
}

// dots: a set as single dots; false, if it is none for a gap, of nodes and counts up to these.
func dots(s []api.Span, gap, nodes, count int) (map[api.Dot]int, bool) {
	out, last := map[api.Dot]int{}, -1
	for _, x := range s {
		if x.Node <= last || x.Node >= nodes || x.Base < 0 || x.Base > count || x.Base == 0 && x.Bits == 0 || x.Bits&1 == 1 {
			return nil, false
		}
		last = x.Node
		for c := range x.Base {
			out[dot(x.Node, c+1)] = 1
		}
		for i := range 64 {
			if x.Bits>>i&1 == 0 {
				continue
			}
			if i >= gap || x.Base+1+i > count {
				return nil, false
			}
			out[dot(x.Node, x.Base+1+i)] = 1
		}
	}
	return out, true
}

// lacks: how many dots of a are not in b.
func lacks(a, b map[api.Dot]int) int {
	n := 0
	for d := range a {
		n += 1 - b[d]
	}
	return n
}

func (p *plain) do(kind int, m api.Msg) ([]api.Msg, api.Errno) {
	if p.s.Dead() {
		return nil, 3
	}
	asked, ok := dots(m.Set, p.c.Gap, p.c.Nodes, p.c.Count)
	if m.Kind != kind || m.To != p.me || !slices.Contains(p.turns, turn{m.Range, m.From}) || !ok {
		return nil, 61
	}
	if kind == 9 {
		_, err := p.s.Take(m.Range, m.Set, m.Writes)
		return nil, err
	}
	known, _ := dots(p.s.Clock(m.Range), 64, 8, 1<<20)
	if lacks(known, asked) == 0 {
		return nil, 0
	}
	return []api.Msg{{Kind: 9, From: p.me, To: m.From, Range: m.Range, Set: p.s.Clock(m.Range), Writes: p.s.Missing([]api.Clock{{Range: m.Range, Set: m.Set}})[0]}}, 0
}

func (p *plain) behind(rng int, set []api.Span) (int, int) {
	asked, ok := dots(set, 64, 8, 1<<20)
	minds := slices.ContainsFunc(p.s.See().Clocks, func(c api.Clock) bool { return c.Range == rng })
	if p.s.Dead() { // which sees no ranges
		minds = slices.ContainsFunc(p.turns, func(x turn) bool { return x.rng == rng })
	}
	if !ok || !minds {
		return 0, 0
	}
	known, _ := dots(p.s.Clock(rng), 64, 8, 1<<20)
	return lacks(known, asked), lacks(asked, known)
}

func oneOf[T any](r *rand.Rand, l ...T) T { return l[r.Intn(len(l))] }

// anySet: mostly a right one, of small counts.
func anySet(r *rand.Rand) []api.Span {
	var out []api.Span
	for node := range 5 {
		if r.Intn(2) == 0 {
			out = append(out, far(node, 1+r.Intn(5), uint64(r.Intn(32))&^1))
		}
	}
	if len(out) == 0 {
		return out
	}
	x := &out[r.Intn(len(out))]
	switch r.Intn(20) {
	case 0:
		x.Bits |= 1
	case 1:
		x.Bits |= 1 << oneOf(r, 5, 6, 63)
	case 2:
		x.Base = oneOf(r, -1, 0, 20, 24, 25, 26)
	case 3:
		x.Node = oneOf(r, -1, 4, 5, 7, 8)
	}
	return out
}

func anyKey(r *rand.Rand, rng int) string {
	switch rng {
	case 0:
		return oneOf(r, "g", "h", "n")
	case 1:
		return oneOf(r, "a", "d", "k")
	case 2:
		return oneOf(r, "p", "q")
	}
	return oneOf(r, "b", "c", "f", "g")
}

// anyWrites: dots of the set that rise, mostly; of keys of the range, mostly.
func anyWrites(r *rand.Rand, rng int, set []api.Span) []api.Write {
	var out []api.Write
	for _, x := range set {
		for c := max(1, x.Base-1); c <= x.Base; c++ {
			if r.Intn(3) > 0 {
				continue
			}
			w := wr(anyKey(r, rng), x.Node, c)
			if r.Intn(2) == 0 && c > 1 {
				w.Ctx = spans(sp(x.Node, c-1))
			}
			out = append(out, w)
		}
	}
	if len(out) > 0 && r.Intn(15) == 0 {
		w := &out[r.Intn(len(out))]
		w.Dot.Count, w.Key = w.Dot.Count+r.Intn(4), oneOf(r, w.Key, "", "z")
	}
	return out
}

// anyMsg: mostly a right one to the node.
func anyMsg(r *rand.Rand, p *plain) api.Msg {
	m := api.Msg{Kind: oneOf(r, 8, 9), To: p.me, Set: anySet(r), From: r.Intn(5), Range: r.Intn(4)}
	if r.Intn(10) > 0 {
		x := oneOf(r, p.turns...)
		m.From, m.Range = x.peer, x.rng
	}
	if m.Kind == 9 || r.Intn(5) == 0 {
		m.Writes = anyWrites(r, m.Range, m.Set)
	}
	switch r.Intn(40) {
	case 0:
		m.Kind = r.Intn(13)
	case 1:
		m.To = oneOf(r, -1, 0, 1, 2, 3, 4, 5)
	case 2:
		m.From, m.Range = oneOf(r, -1, 0, 5, 8), oneOf(r, -1, 0, 4, 16)
	case 3:
		m.Call, m.Owner, m.Key, m.Dot = r.Intn(9)-1, r.Intn(9), "key", dot(1, 1)
	}
	return m
}

// both: the repair, and a plain node beside it; their disks go through the same.
type both struct {
	p, q *place
	twin *plain
}

func (b *both) each(do func(p *place)) {
	do(b.p)
	do(b.q)
}

func (b *both) restart(t *testing.T) {
	t.Helper()
	b.each(func(p *place) { p.restart(t) })
	b.twin = plainOf(b.q)
}

func (b *both) step(t *testing.T, r *rand.Rand) api.Errno {
	t.Helper()
	switch r.Intn(8) {
	case 0:
		got, err := b.p.r.Time()
		want, wantErr := b.twin.time()
		b.wantSame(t, "Time", got, err, want, wantErr)
		return err
	case 1:
		rng, set := r.Intn(6)-1, anySet(r)
		other, own := b.twin.behind(rng, set)
		b.p.wantBehind(t, rng, set, other, own)
		return api.OK
	case 2:
		key, dead := anyKey(r, r.Intn(4)), r.Intn(3) == 0
		b.each(func(p *place) { _, _ = p.s.Mint(key, dead, nil, nil) })
		return api.OK
	}
	m := anyMsg(r, b.twin)
	x := oneOf(r, takers()...)
	if at := slices.IndexFunc(takers(), func(x taker) bool { return x.kind == m.Kind }); at >= 0 && r.Intn(20) > 0 {
		x = takers()[at]
	}
	got, err := x.call(b.p.r, m)
	want, wantErr := b.twin.do(x.kind, m)
	b.wantSame(t, x.name+" of "+showMsg(m), got, err, want, wantErr)
	return err
}

func (b *both) wantSame(t *testing.T, what string, got api.Acts, err api.Errno, want []api.Msg, wantErr api.Errno) {
	t.Helper()
	if err != wantErr || showActs(got) != showActs(api.Acts{Send: want}) {
		t.Fatalf("%s: %d, %s; want %d, %s", what, err, showActs(got), wantErr, showActs(api.Acts{Send: want}))
	}
	x, _ := b.twin.next()
	b.p.wantNext(t, x.rng, x.peer)
}

// TestModel: random messages, now and then a power that fails, against the chapter's rules.
func TestModel(t *testing.T) {
	met := map[api.Errno]int{}
	for seed := range int64(100) {
		r := rand.New(rand.NewSource(seed))
		c := five()
		c.Keys, c.Siblings, c.Count = 1+r.Intn(8), 1+r.Intn(8), 25
		me := oneOf(r, 0, 1, 2, 2, 2, 3, 4)
		b := &both{p: fresh(t, c, me), q: fresh(t, c, me)}
		b.twin = plainOf(b.q)
		for range 150 {
			if r.Intn(30) == 0 {
				after, torn := r.Intn(20), r.Intn(513)
				b.each(func(p *place) { p.d.Arm(after, torn) })
			}
			if b.p.s.Dead() && r.Intn(4) == 0 {
				b.restart(t)
			}
			met[b.step(t, r)]++
			if got, want := showState(b.p.s.See()), showState(b.q.s.See()); got != want || b.p.d.Writes() != b.q.d.Writes() {
				t.Fatalf("seed %d: %s, %d raw writes; want %s, %d", seed, got, b.p.d.Writes(), want, b.q.d.Writes())
			}
			if t.Failed() {
				t.Fatalf("seed %d", seed)
			}
		}
	}
	for _, err := range []api.Errno{api.OK, api.ErrDown, api.ErrSiblings, api.ErrWrite, api.ErrMsg, api.ErrKeys} {
		if met[err] < 20 {
			t.Errorf("only %d calls answered %d", met[err], err)
		}
	}
}
