package coord

import (
	"bytes"
	"slices"
	"testing"
	"unsafe"

	"rookery/api"
)

// piece: the memory of a list, its spare room too.
type piece struct{ from, to uintptr }

func pieceOf[T any](out []piece, l []T) []piece {
	if cap(l) == 0 {
		return out
	}
	from := uintptr(unsafe.Pointer(unsafe.SliceData(l)))
	return append(out, piece{from, from + uintptr(cap(l))*unsafe.Sizeof(*unsafe.SliceData(l))})
}

func writePieces(out []piece, l []api.Write) []piece {
	out = pieceOf(out, l)
	for _, w := range l {
		out = pieceOf(pieceOf(out, w.Value), w.Ctx)
	}
	return out
}

func msgPieces(out []piece, m api.Msg) []piece {
	return pieceOf(writePieces(out, m.Writes), m.Set)
}

func actPieces(a api.Acts) []piece {
	out := pieceOf(pieceOf(pieceOf(nil, a.Send), a.Arm), a.Done)
	for _, m := range a.Send {
		out = msgPieces(out, m)
	}
	for _, d := range a.Done {
		out = pieceOf(writePieces(out, d.Writes), d.Token)
	}
	return out
}

// shared: have two of the pieces memory in common?
func shared(l []piece) bool {
	slices.SortFunc(l, func(a, b piece) int { return int(a.from) - int(b.from) })
	for i := 1; i < len(l); i++ {
		if l[i].from < l[i-1].to {
			return true
		}
	}
	return false
}

// heldPieces: what the coordinator itself keeps.
func heldPieces(c *Coord) []piece {
	var out []piece
	for _, k := range c.calls {
		out = pieceOf(pieceOf(out, k.seats), k.standins)
		out = pieceOf(pieceOf(out, k.write.Value), k.write.Ctx)
		for _, s := range k.seats {
			out = pieceOf(writePieces(out, s.writes), s.set)
		}
	}
	return out
}

// watch plays calls and looks at all memory that went in, came out or stays.
type watch struct {
	t    *testing.T
	c    *Coord
	acts []api.Acts // kept, so that no memory is given out twice
	in   []piece
	kept []any // what went in, for the same reason
}

func (w *watch) see(a api.Acts, err api.Errno) api.Acts {
	w.t.Helper()
	if err != api.OK {
		w.t.Errorf("error %d", err)
	}
	w.acts = append(w.acts, a)
	all := slices.Concat(w.in, heldPieces(w.c))
	for _, a := range w.acts {
		all = append(all, actPieces(a)...)
	}
	if shared(all) {
		w.t.Error("two lists have memory in common")
	}
	return a
}

// rich: a write with a value and a context, both with spare room.
func rich(node, count int) api.Write {
	w := wr(node, count)
	w.Value = append(make([]byte, 0, 9), "abc"...)
	w.Ctx = append(make([]api.Span, 0, 4), sp(5, 1), sp(6, 2))
	return w
}

func richList(l ...api.Write) []api.Write { return append(make([]api.Write, 0, len(l)+3), l...) }

func TestP1110NoTwoShare(t *testing.T) {
	w := &watch{t: t, c: fresh(t, 0, 4)}
	a, p, s := rich(0, 1), prefer(), standins()
	w.in = pieceOf(pieceOf(pieceOf(pieceOf(nil, a.Value), a.Ctx), p), s)
	w.kept = append(w.kept, a, p, s)
	w.see(w.c.Put(1, a, p, s, 2, true))
	w.see(w.c.Time(1))
	w.see(w.c.On(stored(1, 2, 2)))
	w.see(w.c.Put(2, a, p, s, 1, true))
	w.see(w.c.Time(2))

	own, clock := richList(rich(0, 1), of("l", rich(1, 1)), rich(2, 1)), append(make([]api.Span, 0, 9), sp(0, 1))
	w.in = pieceOf(writePieces(w.in, own), clock)
	w.kept = append(w.kept, own, clock)
	w.see(w.c.Get(3, "k", p, s, 3, true, own, clock))
	w.see(w.c.Time(3))
	m := found(3, 3, 2, richList(rich(0, 2), rich(2, 1))...)
	n := tell(3, 1, append(make([]api.Span, 0, 9), sp(0, 1), sp(1, 2)), richList(rich(1, 3), rich(1, 4))...)
	w.in = msgPieces(msgPieces(w.in, m), n)
	w.kept = append(w.kept, m, n)
	w.see(w.c.On(m))
	got := w.see(w.c.On(n))
	if len(got.Done) != 1 || len(got.Done[0].Writes) != 5 || len(got.Send) != 3 {
		t.Errorf("the Get's end: %s", text(got))
	}
	w.see(w.c.Get(4, "k", p, s, 1, true, own, clock))
}

func TestP1109NewMemory(t *testing.T) {
	c := fresh(t, 0, 4)
	for call := 1; call <= 5; call++ {
		get(t, c, call, 2, false, nil, nil, asks(call), arm(call))
	}
	l := c.Calls()
	clear(l[:cap(l)])
	wantCalls(t, c, 1, 2, 3, 4, 5)
}

// whole: a list with its spare room.
func whole[T any](l []T) []T { return l[:cap(l)] }

func spoilWrites(l []api.Write) {
	for i := range l {
		spoilWrite(l[i])
	}
	for i := range whole(l) {
		whole(l)[i] = api.Write{Key: "spoilt"}
	}
}

func spoilWrite(w api.Write) {
	for i := range whole(w.Value) {
		whole(w.Value)[i] = '!'
	}
	spoilSpans(w.Ctx)
}

func spoilSpans(s []api.Span) {
	for i := range whole(s) {
		whole(s)[i] = sp(3, 33)
	}
}

func spoilInts(l []int) {
	for i := range whole(l) {
		whole(l)[i] = 7
	}
}

func spoilMsg(m api.Msg) {
	spoilWrites(m.Writes)
	spoilSpans(m.Set)
}

func spoilActs(a api.Acts) {
	for _, m := range a.Send {
		spoilMsg(m)
	}
	for _, d := range a.Done {
		spoilWrites(d.Writes)
		spoilSpans(d.Token)
	}
	clear(whole(a.Send))
	clear(whole(a.Arm))
	clear(whole(a.Done))
}

// story: calls of every sort, with what they answered as text; what went in and came out is spoilt, if that is asked for.
func story(t *testing.T, c *Coord, spoilt bool) []string {
	var out []string
	tell1 := func(a api.Acts, err api.Errno) {
		if err != api.OK {
			t.Errorf("error %d", err)
		}
		out = append(out, text(a))
		if spoilt {
			spoilActs(a)
		}
	}
	for quorum := 1; quorum <= 3; quorum++ {
		w, p, s := rich(0, 1), prefer(), standins()
		tell1(c.Put(quorum, w, p, s, quorum, true))
		own, clock := richList(rich(0, 1), rich(0, 2)), spans(sp(0, 2), sp(4, 1, 3))
		tell1(c.Get(10+quorum, "k", p, s, quorum, true, own, clock))
		if spoilt {
			spoilWrite(w)
			spoilWrites(own)
			spoilSpans(clock)
			spoilInts(p)
			spoilInts(s)
		}
	}
	for quorum := 1; quorum <= 3; quorum++ {
		tell1(c.Time(quorum))
		tell1(c.Time(10 + quorum))
		for _, m := range []api.Msg{
			stored(quorum, 1, 1), stored(quorum, 3, 2),
			tell(10+quorum, 1, spans(sp(1, 4)), rich(1, 5), rich(2, 1)),
			found(10+quorum, 3, 2, rich(2, 2), rich(0, 3)),
		} {
			tell1(c.On(m))
			if spoilt {
				spoilMsg(m)
			}
		}
	}
	return out
}

func TestP1110NothingKept(t *testing.T) {
	plain := story(t, fresh(t, 0, 4), false)
	spoilt := story(t, fresh(t, 0, 4), true)
	for i := range plain {
		if plain[i] != spoilt[i] {
			t.Errorf("call %d of the story:\n%s\nand with spoilt lists:\n%s", i, plain[i], spoilt[i])
		}
	}
}

// TestP1110NothingChanged: what is handed in is as it was, to the end of its spare room.
func TestP1110NothingChanged(t *testing.T) {
	c := fresh(t, 0, 4)
	w, u := rich(0, 1), rich(2, 1)
	own := richList(w, of("l", u), u)
	spare := whole(own)
	spare[len(own)] = rich(7, 7)
	p, s := append(make([]int, 0, 9), prefer()...), append(make([]int, 0, 9), standins()...)
	whole(p)[4], whole(s)[4] = 77, 78
	set := append(make([]api.Span, 0, 9), sp(0, 1), sp(2, 1, 3))
	whole(set)[5] = sp(6, 6)
	whole(w.Value)[5], whole(u.Ctx)[3] = 'x', sp(1, 9)
	seen := func() string {
		all := writeText(spare) + spanText(whole(set)) + text(api.Acts{Send: []api.Msg{{Writes: spare, Set: whole(set)}}})
		for _, x := range []api.Write{w, u} {
			all += string(whole(x.Value)) + spanText(whole(x.Ctx))
		}
		for _, n := range slices.Concat(whole(p), whole(s)) {
			all += " " + string(rune('0'+n))
		}
		return all
	}
	before := seen()
	for quorum := 1; quorum <= 3; quorum++ {
		_, _ = c.Put(quorum, w, p, s, quorum, true)
		_, _ = c.Get(10+quorum, "k", p, s, quorum, true, own, set)
		_, _ = c.Time(quorum)
		_, _ = c.Time(10 + quorum)
		_, _ = c.On(api.Msg{Kind: api.MsgTell, From: 1, Call: 10 + quorum, Key: "k", Set: set, Writes: own})
		_, _ = c.On(api.Msg{Kind: api.MsgFound, From: 3, Owner: 2, Call: 10 + quorum, Key: "k", Set: set, Writes: own})
		_, _ = c.On(stored(quorum, 3, 2))
		_, _ = c.Time(quorum)
	}
	if after := seen(); after != before {
		t.Errorf("what was handed in was\n%s\nand is\n%s", before, after)
	}
	if !bytes.Equal(w.Value, []byte("abc")) {
		t.Errorf("the value is %q", w.Value)
	}
}

func TestP1110TwoCoordinators(t *testing.T) {
	a, b, w := fresh(t, 0, 4), fresh(t, 0, 4), wr(0, 1)
	put(t, a, 1, w, 2, false, stores(1, w), arm(1))
	wantCalls(t, b)
	get(t, b, 1, 2, false, nil, nil, asks(1), arm(1))
	on(t, b, stored(1, 1, 1))
	on(t, b, tell(1, 1, nil), done(1, nil))
	wantCalls(t, a, 1)
	at(t, a, 1, failed(1))
}

// TestP1106NothingHeld: an ended call leaves nothing behind.
func TestP1106NothingHeld(t *testing.T) {
	c := fresh(t, 0, 4)
	story(t, c, false)
	for call := range 20 {
		for range 2 {
			if _, err := c.Time(call); err != api.OK {
				t.Errorf("Time(%d): %d", call, err)
			}
		}
	}
	if len(c.calls) != 0 {
		t.Errorf("%d calls are held", len(c.calls))
	}
}
