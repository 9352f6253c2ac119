package node

import (
	"bytes"
	"slices"
	"testing"
	"unsafe"

	"rookery/api"
)

// piece: the memory of a list, its spare room too.
type piece struct{ from, to uintptr }

func pieceOf[T any](out []piece, l []T) []piece {
	if cap(l) == 0 {
		return out
	}
	from := uintptr(unsafe.Pointer(unsafe.SliceData(l)))
	return append(out, piece{from, from + uintptr(cap(l))*unsafe.Sizeof(*unsafe.SliceData(l))})
}

func writePieces(out []piece, l []api.Write) []piece {
	out = pieceOf(out, l)
	for _, w := range l {
		out = pieceOf(pieceOf(out, w.Value), w.Ctx)
	}
	return out
}

func actPieces(out []piece, a api.Acts) []piece {
	out = pieceOf(pieceOf(pieceOf(out, a.Send), a.Arm), a.Done)
	for _, m := range a.Send {
		out = writePieces(pieceOf(out, m.Set), m.Writes)
	}
	for _, d := range a.Done {
		out = writePieces(pieceOf(out, d.Token), d.Writes)
	}
	return out
}

func sightPieces(out []piece, x api.Sight) []piece {
	out = pieceOf(pieceOf(out, x.Timers), x.Calls)
	out = pieceOf(pieceOf(pieceOf(out, x.State.Keys), x.State.Clocks), x.State.Hints)
	for _, l := range x.State.Keys {
		out = writePieces(out, l)
	}
	for _, c := range x.State.Clocks {
		out = pieceOf(out, c.Set)
	}
	for _, h := range x.State.Hints {
		out = pieceOf(pieceOf(out, h.Write.Value), h.Write.Ctx)
	}
	return out
}

// shared: have two of the pieces memory in common?
func shared(l []piece) bool {
	slices.SortFunc(l, func(a, b piece) int { return int(a.from) - int(b.from) })
	for i := 1; i < len(l); i++ {
		if l[i].from < l[i-1].to {
			return true
		}
	}
	return false
}

// whole: a list with its spare room.
func whole[T any](l []T) []T { return l[:cap(l)] }

func spoilWrites(l []api.Write) {
	for _, w := range whole(l) {
		clear(whole(w.Value))
		spoilSpans(w.Ctx)
	}
	for i := range whole(l) {
		whole(l)[i] = api.Write{Key: "spoilt"}
	}
}

func spoilSpans(l []api.Span) {
	for i := range whole(l) {
		whole(l)[i] = sp(4, 44)
	}
}

func spoilActs(a api.Acts) {
	for _, m := range a.Send {
		spoilSpans(m.Set)
		spoilWrites(m.Writes)
	}
	for _, d := range a.Done {
		spoilSpans(d.Token)
		spoilWrites(d.Writes)
	}
	clear(whole(a.Send))
	clear(whole(a.Arm))
	clear(whole(a.Done))
}

func spoilSight(x api.Sight) {
	for _, l := range x.State.Keys {
		spoilWrites(l)
	}
	for _, c := range x.State.Clocks {
		spoilSpans(c.Set)
	}
	for _, h := range x.State.Hints {
		spoilWrites(list(h.Write))
	}
	clear(whole(x.State.Keys))
	clear(whole(x.State.Clocks))
	clear(whole(x.State.Hints))
	clear(whole(x.Timers))
	clear(whole(x.Calls))
}

// handed: what a call is handed; a Put its value and token, Handle its bytes.
type handed struct {
	value []byte
	token []api.Span
	data  []byte
}

// roomy: the same in new memory, with something in its spare room.
func (h handed) roomy() handed {
	out := handed{
		value: append(make([]byte, 0, len(h.value)+5), h.value...), token: append(make([]api.Span, 0, len(h.token)+3), h.token...), data: append(make([]byte, 0, len(h.data)+7), h.data...),
	}
	for i := len(h.value); i < cap(out.value); i++ {
		whole(out.value)[i] = 'x'
	}
	for i := len(h.token); i < cap(out.token); i++ {
		whole(out.token)[i] = sp(3, 3)
	}
	for i := len(h.data); i < cap(out.data); i++ {
		whole(out.data)[i] = 'y'
	}
	return out
}

func (h handed) same(o handed) bool {
	return bytes.Equal(whole(h.value), whole(o.value)) && slices.Equal(whole(h.token), whole(o.token)) && bytes.Equal(whole(h.data), whole(o.data))
}

func (h handed) spoil() {
	clear(whole(h.value))
	clear(whole(h.data))
	spoilSpans(h.token)
}

// event: one call of a story, and what it is handed.
type event struct {
	in handed
	do func(n *Node, in handed) (api.Acts, api.Errno)
}

func putting(call int, key, value string, quorum int, token ...api.Span) event {
	return event{handed{value: []byte(value), token: token}, func(n *Node, in handed) (api.Acts, api.Errno) {
		return n.Put(call, key, false, in.value, in.token, quorum, true)
	}}
}

func getting(call int, key string, quorum int) event {
	return event{handed{}, func(n *Node, _ handed) (api.Acts, api.Errno) { return n.Get(call, key, quorum, true) }}
}

func firing(k int) event {
	return event{handed{}, func(n *Node, _ handed) (api.Acts, api.Errno) { return n.Fire(k) }}
}

func coming(t *testing.T, m api.Msg) event {
	return event{handed{data: bytesOf(t, m)}, func(n *Node, in handed) (api.Acts, api.Errno) { return n.Handle(in.data) }}
}

// story: calls of node 4 of five of all sorts, done and refused ones.
func story(t *testing.T) []event {
	long := wr("k", 2, 1, sp(0, 3), sp(3, 2))
	long.Value = []byte("a value of several bytes")
	come := func(m api.Msg) event { return coming(t, m) }
	return []event{
		putting(1, "k", "one", 2), putting(2, "k", "two", 1, sp(0, 1), sp(2, 4)), putting(3, "k", "three", 3, sp(0, 1), sp(5, 4)), putting(4, "k", "", 3, far(3, 2, 4), sp(4, 1)),
		getting(5, "k", 1), getting(6, "k", 3), getting(7, "a", 2), getting(6, "k", 1),
		come(msgStore(3, 4, 9, long)), come(msgStore(3, 4, 9, long)), come(msgStore(3, 4, 9, wr("g", 3, 1))), come(msgAsk(2, 4, 3, "k")), come(msgAsk(2, 4, 3, "a")),
		come(msgTell(2, 4, 6, "k", spans(sp(2, 7), sp(3, 3)), wr("k", 2, 3, sp(4, 2)), wr("k", 3, 3))), come(msgStored(2, 4, 1, 2)), come(msgStored(2, 4, 4, 2)),
		firing(0), firing(0), firing(0), firing(0), firing(1), firing(99), come(msgFound(0, 4, 7, 2, "a", wr("a", 2, 4, sp(0, 2)), wr("a", 3, 1))), come(msgTell(3, 4, 6, "k", nil, wr("k", 3, 4, sp(0, 1)))),
		come(msgKeep(1, 4, 2, 3, wr("g", 1, 1, sp(3, 3)))), come(msgKeep(1, 4, 2, 2, wr("g", 1, 1, sp(3, 3)))), come(msgSeek(1, 4, 3, 3, "g")), firing(2), firing(1), firing(0),
		come(msgTook(3, 4, "g", dot(1, 1))), come(msgBack(0, 4, wr("p", 0, 3))), come(msgClock(2, 4, 1)), come(msgClock(2, 4, 1, sp(4, 2))), come(msgClock(2, 4, 2)),
		come(msgShip(0, 4, 2, spans(sp(0, 9)), wr("p", 0, 8, sp(0, 3)), wr("q", 0, 9))), come(msgShip(0, 4, 2, spans(sp(0, 9)), wr("p", 0, 8))), firing(0), firing(0), getting(8, "p", 1), getting(9, "q", 2),
	}
}

// TestP1407NoTwoShare: of all that goes in and comes out, no two lists have memory in common.
func TestP1407NoTwoShare(t *testing.T) {
	p := fresh(t, five(), 4)
	var in []handed // all are kept, so that no memory is given out twice
	var out []api.Acts
	var seen []api.Sight
	met := map[api.Errno]int{}
	for _, x := range story(t) {
		h := x.in.roomy()
		a, err := x.do(p.n, h)
		in, out, seen = append(in, h), append(out, a), append(seen, p.n.See())
		met[err]++
	}
	var all []piece
	for _, h := range in {
		all = pieceOf(pieceOf(pieceOf(all, h.value), h.token), h.data)
	}
	for _, a := range out {
		all = actPieces(all, a)
	}
	for _, x := range seen {
		all = sightPieces(all, x)
	}
	if len(all) < 500 || met[api.OK] < 30 {
		t.Errorf("only %d lists; errors %v", len(all), met)
	}
	if shared(all) {
		t.Errorf("of %d lists two have memory in common", len(all))
	}
}

// TestP1407NothingKept: what went in and came out may be spoilt behind each call: all goes on as it would have.
func TestP1407NothingKept(t *testing.T) {
	p, q := fresh(t, five(), 4), fresh(t, five(), 4)
	for i, x := range story(t) {
		a, e := x.do(p.n, x.in.roomy())
		in := x.in.roomy()
		b, f := x.do(q.n, in)
		if showActs(a) != showActs(b) || e != f {
			t.Errorf("call %d: %d, %s; spoilt: %d, %s", i, e, showActs(a), f, showActs(b))
		}
		in.spoil()
		spoilActs(b)
		spoilSight(q.n.See())
		if p.sight() != q.sight() {
			t.Errorf("call %d: %s; spoilt: %s", i, p.sight(), q.sight())
		}
	}
}

// TestP1407NothingChanged: neither by calls that are done, nor by refused ones, nor where the power fails.
func TestP1407NothingChanged(t *testing.T) {
	for _, after := range []int{-1, 0, 3, 8, 20, 60, 100} {
		p := fresh(t, five(), 4)
		p.d.Arm(after, 100)
		for i, x := range story(t) {
			in := x.in.roomy()
			_, _ = x.do(p.n, in)
			if !in.same(x.in.roomy()) {
				t.Errorf("call %d: what was handed in has changed", i)
			}
		}
	}
}

// TestP1407TwoNodes: those on two disks have nothing in common.
func TestP1407TwoNodes(t *testing.T) {
	p, q := fresh(t, five(), 4), fresh(t, five(), 4)
	was := q.sight()
	for _, x := range story(t) {
		_, _ = x.do(p.n, x.in.roomy())
		if q.sight() != was {
			t.Fatalf("the other node: %s; it was %s", q.sight(), was)
		}
	}
	p.d.Off()
	if !p.n.Down() || q.n.Down() || q.sight() != was {
		t.Errorf("the other node: %s; it was %s", q.sight(), was)
	}
	q.put(1, "k")
}
