package hints

import (
	"math/rand"
	"slices"
	"testing"

	"rookery/api"
	"rookery/store"
	"rookery/wire"
)

// plain: what the hands of a node do, said by the chapter's rules on a store of its own; hints are looked up in See alone.
type plain struct {
	c  api.Config
	me int
	s  *store.Store
}

func (p *plain) do(kind int, m api.Msg) ([]api.Msg, api.Errno) {
	if !wire.Valid(m) || m.Kind != kind || m.To != p.me || m.From < 0 || m.From > p.c.Nodes-1 {
		return nil, 61
	}
	if p.s.Dead() {
		return nil, 3
	}
	switch kind {
	case 3:
		if _, err := p.s.Hint(m.Owner, m.Writes[0]); err != 0 {
			return nil, err
		}
		return []api.Msg{{Kind: 2, From: p.me, To: m.From, Call: m.Call, Owner: m.Owner}}, 0
	case 6:
		var l []api.Write
		for _, x := range p.s.See().Hints {
			if x.Owner == m.Owner && x.Write.Key == m.Key {
				l = append(l, x.Write)
			}
		}
		return []api.Msg{{Kind: 7, From: p.me, To: m.From, Call: m.Call, Owner: m.Owner, Key: m.Key, Writes: l}}, 0
	case 10:
		if _, err := p.s.Merge(m.Writes[0]); err != 0 {
			return nil, err
		}
		return []api.Msg{{Kind: 11, From: p.me, To: m.From, Key: m.Writes[0].Key, Dot: m.Writes[0].Dot}}, 0
	}
	_, err := p.s.Unhint(m.From, m.Key, m.Dot)
	return nil, err
}

func (p *plain) time() ([]api.Msg, api.Errno) {
	if p.s.Dead() {
		return nil, 3
	}
	var l []api.Msg
	for _, x := range p.s.See().Hints {
		l = append(l, api.Msg{Kind: 10, From: p.me, To: x.Owner, Writes: list(x.Write)})
	}
	return l, 0
}

func oneOf[T any](r *rand.Rand, l ...T) T { return l[r.Intn(len(l))] }

func anyKey(r *rand.Rand) string {
	return oneOf(r, "g", "g", "h", "b", "b", "d", "k", "p", "p", "q", "bb")
}

// anyWrite: mostly a right one.
func anyWrite(r *rand.Rand) api.Write {
	w := of(anyKey(r), wr(r.Intn(5), 1+r.Intn(oneOf(r, 2, 6, 12))))
	switch r.Intn(12) {
	case 0:
		w = gone(w)
	case 1:
		w.Dot = oneOf(r, dot(5, 1), dot(0, 1001), dot(8, 1), dot(0, 0))
	case 2:
		w.Key = ""
	case 3, 4, 5:
		w.Ctx = spans(sp(oneOf(r, 0, 1, 4, 5, w.Dot.Node), w.Dot.Count-1+r.Intn(2)))
	}
	return w
}

// anyMsg: mostly a right one to node 0.
func anyMsg(r *rand.Rand) api.Msg {
	w := anyWrite(r)
	from, to, call, owner := r.Intn(5), 0, r.Intn(9), oneOf(r, 1, 3, 1, 3, r.Intn(9)-1)
	if r.Intn(25) == 0 {
		from, to, call = oneOf(r, -1, 0, 5, 8), oneOf(r, 0, 1, -1), oneOf(r, -1, 0, 4096, 4097)
	}
	m := oneOf(r, keep(from, to, call, owner, w), seek(from, to, call, owner, w.Key), back(from, to, w), took(owner, to, w.Key, w.Dot), stored(from, to, call, owner), found(from, to, call, owner, w.Key, w))
	if r.Intn(25) == 0 {
		m.Owner, m.Range, m.Writes = r.Intn(2), r.Intn(2), m.Writes[:0]
	}
	return m
}

// both: the hands, and a plain node beside them; their disks go through the same.
type both struct {
	p *place
	q *place
}

func (b both) each(do func(p *place)) {
	do(b.p)
	do(b.q)
}

func (b both) step(t *testing.T, r *rand.Rand) api.Errno {
	t.Helper()
	twin := &plain{c: b.q.c, me: b.q.me, s: b.q.s}
	if r.Intn(8) == 0 {
		got, err := b.p.h.Time()
		want, wantErr := twin.time()
		if err != wantErr || showActs(got) != showActs(api.Acts{Send: want}) {
			t.Fatalf("Time: %d, %s; want %d, %s", err, showActs(got), wantErr, showActs(api.Acts{Send: want}))
		}
		return err
	}
	m := anyMsg(r)
	x := oneOf(r, takers()...)
	if at := slices.IndexFunc(takers(), func(x taker) bool { return x.kind == m.Kind }); at >= 0 && r.Intn(20) > 0 {
		x = takers()[at]
	}
	got, err := x.call(b.p.h, m)
	want, wantErr := twin.do(x.kind, m)
	if err != wantErr || showActs(got) != showActs(api.Acts{Send: want}) {
		t.Fatalf("%s of %s: %d, %s; want %d, %s", x.name, showMsg(m), err, showActs(got), wantErr, showActs(api.Acts{Send: want}))
	}
	return err
}

// TestModel: random messages, now and then a power that fails, against the chapter's rules.
func TestModel(t *testing.T) {
	met := map[api.Errno]int{}
	for seed := range int64(60) {
		r := rand.New(rand.NewSource(seed))
		c := five()
		c.Keys, c.Siblings, c.Hints = 1+r.Intn(2), 1+r.Intn(3), r.Intn(5)
		b := both{fresh(t, c, 0), fresh(t, c, 0)}
		for range 150 {
			if r.Intn(20) == 0 {
				after, torn := r.Intn(12), r.Intn(513)
				b.each(func(p *place) { p.d.Arm(after, torn) })
			}
			if b.p.s.Dead() && r.Intn(4) == 0 {
				b.each(func(p *place) { p.restart(t) })
			}
			met[b.step(t, r)]++
			if got, want := showState(b.p.s.See()), showState(b.q.s.See()); got != want || b.p.d.Writes() != b.q.d.Writes() {
				t.Fatalf("seed %d: %s, %d raw writes; want %s, %d", seed, got, b.p.d.Writes(), want, b.q.d.Writes())
			}
		}
	}
	for _, err := range []api.Errno{api.OK, api.ErrDown, api.ErrNode, api.ErrGap, api.ErrSiblings, api.ErrWrite, api.ErrMsg, api.ErrKeys, api.ErrHints, api.ErrMine} {
		if met[err] == 0 {
			t.Errorf("no call answered %d", err)
		}
	}
}
