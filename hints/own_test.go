package hints

import (
	"slices"
	"sync"
	"testing"
	"unsafe"

	"rookery/api"
)

// piece: the memory of a list, its spare room too.
type piece struct{ from, to uintptr }

func pieceOf[T any](out []piece, l []T) []piece {
	if cap(l) == 0 {
		return out
	}
	from := uintptr(unsafe.Pointer(unsafe.SliceData(l)))
	return append(out, piece{from, from + uintptr(cap(l))*unsafe.Sizeof(*unsafe.SliceData(l))})
}

func msgPieces(out []piece, m api.Msg) []piece {
	out = pieceOf(pieceOf(out, m.Set), m.Writes)
	for _, w := range m.Writes {
		out = pieceOf(pieceOf(out, w.Value), w.Ctx)
	}
	return out
}

func actPieces(out []piece, a api.Acts) []piece {
	out = pieceOf(pieceOf(pieceOf(out, a.Send), a.Arm), a.Done)
	for _, m := range a.Send {
		out = msgPieces(out, m)
	}
	return out
}

// shared: have two of the pieces memory in common?
func shared(l []piece) bool {
	slices.SortFunc(l, func(a, b piece) int { return int(a.from) - int(b.from) })
	for i := 1; i < len(l); i++ {
		if l[i].from < l[i-1].to {
			return true
		}
	}
	return false
}

// whole: a list with its spare room.
func whole[T any](l []T) []T { return l[:cap(l)] }

// rich: a write whose lists have spare room, something in it.
func rich(key string, node, count int) api.Write {
	w := of(key, wr(node, count))
	w.Value = append(make([]byte, 0, 9), "abc"...)
	w.Ctx = append(make([]api.Span, 0, 4), sp(0, 1), sp(2, 2))
	whole(w.Value)[5], whole(w.Ctx)[3] = 'x', sp(7, 7)
	return w
}

// richly: the same message, whose list of writes has spare room; other fields have it too.
func richly(m api.Msg) api.Msg {
	m.Writes = append(make([]api.Write, 0, len(m.Writes)+2), m.Writes...)
	whole(m.Writes)[len(m.Writes)] = rich("z", 7, 7)
	m.Set = make([]api.Span, 0, 2)
	whole(m.Set)[1] = sp(6, 6)
	return m
}

// everything: all that is to be seen of a message, spare room and all.
func everything(m api.Msg) string {
	text := showMsg(m) + showMsg(api.Msg{Writes: whole(m.Writes), Set: whole(m.Set)})
	for _, w := range whole(m.Writes) {
		text += show(api.Write{Value: whole(w.Value), Ctx: whole(w.Ctx)})
	}
	return text
}

func spoilMsg(m api.Msg) {
	for _, w := range m.Writes {
		clear(whole(w.Value))
		for i := range whole(w.Ctx) {
			whole(w.Ctx)[i] = sp(3, 33)
		}
	}
	for i := range whole(m.Writes) {
		whole(m.Writes)[i] = api.Write{Key: "spoilt"}
	}
	clear(whole(m.Set))
}

func spoilActs(a api.Acts) {
	for _, m := range a.Send {
		spoilMsg(m)
	}
	clear(whole(a.Send))
	clear(whole(a.Arm))
	clear(whole(a.Done))
}

// story: messages of every sort, done and refused ones, in one order; between them the timer.
func story() []api.Msg {
	return []api.Msg{
		keep(1, 0, 1, 3, rich("g", 1, 3)), keep(1, 0, 2, 3, rich("g", 1, 2)), keep(3, 0, 3, 1, rich("g", 1, 2)), keep(3, 0, 4, 1, rich("g", 1, 2)), keep(3, 0, 4, 0, rich("g", 1, 2)), keep(3, 0, 4, 1, rich("g", 5, 2)),
		seek(2, 0, 5, 3, "g"), seek(2, 0, 6, 1, "g"), seek(2, 0, 7, 2, "k"),
		back(4, 0, rich("p", 4, 2)), back(4, 0, rich("p", 4, 2)), back(4, 0, rich("p", 4, 20)), back(4, 0, rich("g", 4, 2)), back(4, 1, rich("p", 4, 2)),
		took(3, 0, "g", dot(1, 2)), took(3, 0, "g", dot(1, 2)), took(9, 0, "g", dot(1, 2)), seek(2, 0, 8, 3, "g"),
	}
}

func do(h *Hands, m api.Msg) (api.Acts, api.Errno) {
	for _, x := range takers() {
		if x.kind == m.Kind {
			return x.call(h, m)
		}
	}
	return api.Acts{}, api.ErrMsg
}

// TestP1208NoTwoShare: of all that goes in and comes out, no two lists have memory in common.
func TestP1208NoTwoShare(t *testing.T) {
	p := fresh(t, five(), 0)
	var in []api.Msg // both are kept, so that no memory is given out twice
	var out []api.Acts
	for _, m := range story() {
		m = richly(m)
		a, _ := do(p.h, m)
		b, _ := p.h.Time()
		in, out = append(in, m), append(out, a, b)
	}
	var all []piece
	for _, m := range in {
		all = msgPieces(all, m)
	}
	for _, a := range out {
		all = actPieces(all, a)
	}
	if len(all) < 200 || shared(all) {
		t.Errorf("of %d lists two have memory in common", len(all))
	}
}

// TestP1208NothingKept: what went in and came out may be spoilt behind each call: all goes on as it would have.
func TestP1208NothingKept(t *testing.T) {
	p, q := fresh(t, five(), 0), fresh(t, five(), 0)
	for _, m := range story() {
		a, e := do(p.h, richly(m))
		in := richly(m)
		for i, w := range in.Writes {
			in.Writes[i].Value, in.Writes[i].Ctx = slices.Clone(w.Value), slices.Clone(w.Ctx)
		}
		b, f := do(q.h, in)
		if showActs(a) != showActs(b) || e != f {
			t.Errorf("%s: %d, %s; spoilt: %d, %s", showMsg(m), e, showActs(a), f, showActs(b))
		}
		spoilMsg(in)
		spoilActs(b)
		a, _ = p.h.Time()
		b, _ = q.h.Time()
		if showActs(a) != showActs(b) {
			t.Errorf("Time: %s; spoilt: %s", showActs(a), showActs(b))
		}
		spoilActs(b)
		if showState(p.s.See()) != showState(q.s.See()) {
			t.Errorf("behind %s: %s; spoilt: %s", showMsg(m), showState(p.s.See()), showState(q.s.See()))
		}
	}
}

// TestP1208NothingChanged: neither by calls that are done, nor by refused ones, nor where the power fails.
func TestP1208NothingChanged(t *testing.T) {
	for _, after := range []int{-1, 0, 3, 8, 20} {
		p := fresh(t, five(), 0)
		p.d.Arm(after, 100)
		for _, m := range story() {
			m = richly(m)
			before := everything(m)
			for _, x := range takers() {
				_, _ = x.call(p.h, m)
			}
			if everything(m) != before {
				t.Errorf("%s was handed in, and is\n%s; it was\n%s", showMsg(m), everything(m), before)
			}
		}
	}
}

// TestP1208TwoHands: those of two stores have nothing in common.
func TestP1208TwoHands(t *testing.T) {
	p, q := fresh(t, five(), 0), fresh(t, five(), 0)
	if _, err := p.h.Keep(good(3)); err != api.OK {
		t.Fatalf("Keep: %d", err)
	}
	q.wantHints(t, "the other store")
	a, err := q.h.Time()
	wantActs(t, "Time of the other", a, err)
	q.die(t)
	a, err = p.h.Time()
	wantActs(t, "Time", a, err, back(0, 3, good(3).Writes[0]))
}

// TestP1204ManyAtOnce: a store that dies meanwhile is never told of as one that keeps nothing.
func TestP1204ManyAtOnce(t *testing.T) {
	for range 20 {
		p := fresh(t, five(), 0)
		w := of("g", wr(1, 1))
		p.hint(t, 3, w)
		p.d.Off()
		var all sync.WaitGroup
		for i := range 8 {
			all.Go(func() {
				for range 20 {
					a, err := p.h.Seek(seek(1, 0, 5, 3, "g"))
					if err != api.ErrDown {
						wantActs(t, "Seek", a, err, found(0, 1, 5, 3, "g", w))
					}
					a, err = p.h.Time()
					if err != api.ErrDown {
						wantActs(t, "Time", a, err, back(0, 3, w))
					}
				}
				if i == 5 {
					_, _ = p.h.Took(good(11))
				}
			})
		}
		all.Wait()
	}
}
