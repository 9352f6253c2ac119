package repair

import (
	"slices"
	"sync"
	"testing"
	"unsafe"

	"rookery/api"
	"rookery/dotset"
)

// piece: the memory of a list, its spare room too.
type piece struct{ from, to uintptr }

func pieceOf[T any](out []piece, l []T) []piece {
	if cap(l) == 0 {
		return out
	}
	from := uintptr(unsafe.Pointer(unsafe.SliceData(l)))
	return append(out, piece{from, from + uintptr(cap(l))*unsafe.Sizeof(*unsafe.SliceData(l))})
}

func msgPieces(out []piece, m api.Msg) []piece {
	out = pieceOf(pieceOf(out, m.Set), m.Writes)
	for _, w := range m.Writes {
		out = pieceOf(pieceOf(out, w.Value), w.Ctx)
	}
	return out
}

func actPieces(out []piece, a api.Acts) []piece {
	out = pieceOf(pieceOf(pieceOf(out, a.Send), a.Arm), a.Done)
	for _, m := range a.Send {
		out = msgPieces(out, m)
	}
	return out
}

// shared: have two of the pieces memory in common?
func shared(l []piece) bool {
	slices.SortFunc(l, func(a, b piece) int { return int(a.from) - int(b.from) })
	for i := 1; i < len(l); i++ {
		if l[i].from < l[i-1].to {
			return true
		}
	}
	return false
}

// whole: a list with its spare room.
func whole[T any](l []T) []T { return l[:cap(l)] }

// rich: a write whose lists have spare room, something in it.
func rich(key string, node, count int) api.Write {
	w := wr(key, node, count)
	w.Value = append(make([]byte, 0, 9), "abc"...)
	w.Ctx = append(make([]api.Span, 0, 4), sp(0, 1), sp(1, 2))
	whole(w.Value)[5], whole(w.Ctx)[3] = 'x', sp(7, 7)
	return w
}

// richly: the same message in lists of its own, which have spare room.
func richly(m api.Msg) api.Msg {
	m.Set = append(make([]api.Span, 0, len(m.Set)+2), m.Set...)
	whole(m.Set)[len(m.Set)] = sp(6, 6)
	old := m.Writes
	m.Writes = make([]api.Write, 0, len(old)+2)
	for _, w := range old {
		m.Writes = append(m.Writes, rich(w.Key, w.Dot.Node, w.Dot.Count))
	}
	whole(m.Writes)[len(m.Writes)] = rich("z", 7, 7)
	return m
}

// everything: all that is to be seen of a message, spare room and all.
func everything(m api.Msg) string {
	text := showMsg(m) + showMsg(api.Msg{Writes: whole(m.Writes), Set: whole(m.Set)})
	for _, w := range whole(m.Writes) {
		text += show(api.Write{Value: whole(w.Value), Ctx: whole(w.Ctx)})
	}
	return text
}

func spoilMsg(m api.Msg) {
	for _, w := range m.Writes {
		clear(whole(w.Value))
		for i := range whole(w.Ctx) {
			whole(w.Ctx)[i] = sp(3, 33)
		}
	}
	for i := range whole(m.Writes) {
		whole(m.Writes)[i] = api.Write{Key: "spoilt"}
	}
	for i := range whole(m.Set) {
		whole(m.Set)[i] = sp(4, 44)
	}
}

func spoilActs(a api.Acts) {
	for _, m := range a.Send {
		spoilMsg(m)
	}
	clear(whole(a.Send))
	clear(whole(a.Arm))
	clear(whole(a.Done))
}

// story: messages to node 2 of both sorts, done and refused ones; between them the timer.
func story() []api.Msg {
	known := spans(sp(3, 3), far(4, 2, 4))
	return []api.Msg{
		ship(4, 2, 1, known, wr("a", 3, 1), wr("k", 3, 2), wr("k", 4, 2), wr("a", 4, 5)), clock(3, 2, 1), clock(3, 2, 1, sp(3, 3)), clock(3, 2, 1, known...), clock(4, 2, 1, sp(4, 2)),
		ship(4, 2, 1, known, wr("a", 3, 1)), ship(4, 2, 1, known, wr("a", 4, 9)), ship(4, 2, 1, spans(sp(4, 0))), ship(3, 2, 0, spans(sp(1, 2), sp(3, 1)), wr("g", 1, 1), wr("h", 3, 1)),
		clock(1, 2, 0), clock(3, 2, 0, sp(1, 2)), clock(0, 2, 0), clock(1, 2, 0, sp(9, 1)), ship(4, 2, 2, spans(sp(4, 1)), wr("p", 4, 1)), clock(4, 2, 2), clock(0, 2, 2, sp(4, 2)),
	}
}

func do(r *Repair, m api.Msg) (api.Acts, api.Errno) {
	if m.Kind == api.MsgShip {
		return r.Ship(m)
	}
	return r.Clock(m)
}

// TestP1308NoTwoShare: of all that goes in and comes out, no two lists have memory in common.
func TestP1308NoTwoShare(t *testing.T) {
	p := fresh(t, five(), 2)
	var in []api.Msg // both are kept, so that no memory is given out twice
	var out []api.Acts
	for _, m := range story() {
		m = richly(m)
		a, _ := do(p.r, m)
		b, _ := p.r.Time()
		in, out = append(in, m), append(out, a, b)
	}
	var all []piece
	for _, m := range in {
		all = msgPieces(all, m)
	}
	for _, a := range out {
		all = actPieces(all, a)
	}
	if len(all) < 100 || shared(all) {
		t.Errorf("of %d lists two have memory in common", len(all))
	}
}

// TestP1308NothingKept: what went in and came out may be spoilt behind each call: all goes on as it would have.
func TestP1308NothingKept(t *testing.T) {
	p, q := fresh(t, five(), 2), fresh(t, five(), 2)
	for _, m := range story() {
		a, e := do(p.r, richly(m))
		in := richly(m)
		b, f := do(q.r, in)
		if showActs(a) != showActs(b) || e != f {
			t.Errorf("%s: %d, %s; spoilt: %d, %s", showMsg(m), e, showActs(a), f, showActs(b))
		}
		spoilMsg(in)
		spoilActs(b)
		a, _ = p.r.Time()
		b, _ = q.r.Time()
		if showActs(a) != showActs(b) {
			t.Errorf("Time: %s; spoilt: %s", showActs(a), showActs(b))
		}
		spoilActs(b)
		if showState(p.s.See()) != showState(q.s.See()) {
			t.Errorf("behind %s: %s; spoilt: %s", showMsg(m), showState(p.s.See()), showState(q.s.See()))
		}
	}
}

// TestP1308NothingChanged: neither by calls that are done, nor by refused ones, nor where the power fails.
func TestP1308NothingChanged(t *testing.T) {
	for _, after := range []int{-1, 0, 3, 8, 20} {
		p := fresh(t, five(), 2)
		p.d.Arm(after, 100)
		for _, m := range story() {
			m = richly(m)
			before := everything(m)
			for _, x := range takers() {
				_, _ = x.call(p.r, m)
			}
			p.r.Behind(m.Range, m.Set)
			if everything(m) != before {
				t.Errorf("%s was handed in, and is\n%s; it was\n%s", showMsg(m), everything(m), before)
			}
		}
	}
}

// TestP1308TwoRepairs: those of two stores have nothing in common.
func TestP1308TwoRepairs(t *testing.T) {
	p, q := fresh(t, five(), 2), fresh(t, five(), 2)
	p.mint(t, "g")
	_, _ = p.r.Time()
	q.wantNext(t, 0, 1)
	a, err := q.r.Time()
	wantActs(t, "Time of the other", a, err, clock(2, 1, 0))
	q.wantBehind(t, 0, spans(sp(2, 1)), 0, 1)
	q.die(t)
	a, err = p.r.Time()
	wantActs(t, "Time", a, err, clock(2, 3, 0, sp(2, 1)))
}

// TestP1304ManyAtOnce: a store that dies meanwhile is never told of as one that knows nothing.
func TestP1304ManyAtOnce(t *testing.T) {
	for range 20 {
		p := fresh(t, three(), 2)
		w := p.mint(t, "g")
		p.d.Off()
		var all sync.WaitGroup
		for i := range 8 {
			all.Go(func() {
				for range 20 {
					a, err := p.r.Clock(clock(1, 2, 0))
					if err != api.ErrDown {
						wantActs(t, "Clock", a, err, ship(2, 1, 0, spans(sp(2, 1)), w))
					}
				}
				if i == 5 {
					_, _ = p.r.Ship(ship(1, 2, 0, nil))
				}
			})
		}
		all.Wait()
	}
}

// TestP1304MintedMeanwhile: writes that come while a clock is answered never leave a dot in the shipment without its write.
func TestP1304MintedMeanwhile(t *testing.T) {
	c := three()
	c.Keys, c.Siblings = api.MaxKeys, api.MaxSiblings
	for range 60 {
		p := fresh(t, c, 2)
		var all sync.WaitGroup
		all.Go(func() {
			for i := range 60 {
				_, _ = p.s.Mint(oneKey(i), false, nil, nil)
			}
		})
		for len(p.s.Clock(0)) == 0 || p.s.Clock(0)[0].Base < 60 {
			a, err := p.r.Clock(clock(1, 2, 0))
			if err != api.OK {
				t.Errorf("Clock: %d", err)
			}
			for _, m := range a.Send {
				wantCarried(t, m)
			}
		}
		all.Wait()
	}
}

// oneKey: one of the eight keys of the range 0.
func oneKey(i int) string { return string("ghnpqsuv"[i%8]) }

// wantCarried: of a shipment to one that knows nothing, in which no write covers another: each dot has its write.
func wantCarried(t *testing.T, m api.Msg) {
	t.Helper()
	for d := range dotset.Missing(m.Set, nil) {
		if !slices.ContainsFunc(m.Writes, func(w api.Write) bool { return w.Dot == d }) {
			t.Errorf("%v is shipped without its write: %v, %d writes", d, m.Set, len(m.Writes))
		}
	}
}
