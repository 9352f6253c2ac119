package node

import (
	"fmt"
	"math"
	"strings"
	"testing"

	"rookery/api"
)

// tried: the arguments of a Put; of a Get it is call, key, quorum and sloppy.
type tried struct {
	call   int
	key    string
	dead   bool
	value  []byte
	token  []api.Span
	quorum int
	sloppy bool
}

func (x tried) put(n *Node) (api.Acts, api.Errno) {
	return n.Put(x.call, x.key, x.dead, x.value, x.token, x.quorum, x.sloppy)
}

func (x tried) get(n *Node) (api.Acts, api.Errno) { return n.Get(x.call, x.key, x.quorum, x.sloppy) }

// fault: what is wrong with a call, in several ways.
type fault struct {
	want api.Errno
	ways []func(x *tried)
}

// faults: in the order in which a Put names them; all of node 0 of five, for which the key p lies right, and whose call 9 has begun.
func faults() []fault {
	return []fault{
		{api.ErrKey, []func(x *tried){func(x *tried) { x.key = "" }, func(x *tried) { x.key = strings.Repeat("p", 17) }, func(x *tried) { x.key = strings.Repeat("p", 900) }}},
		{api.ErrLong, []func(x *tried){func(x *tried) { x.value = make([]byte, 65) }, func(x *tried) { x.value = make([]byte, 9999) }}},
		{api.ErrArg, []func(x *tried){func(x *tried) { x.dead, x.value = true, append(x.value, 'v') }}},
		{api.ErrMine, []func(x *tried){func(x *tried) { x.key = unlike(x.key, "g") }, func(x *tried) { x.key = unlike(x.key, "k") }, func(x *tried) { x.key = unlike(x.key, "b") }}},
		{api.ErrArg, []func(x *tried){
			func(x *tried) { x.call = 0 }, func(x *tried) { x.call = 4097 }, func(x *tried) { x.call = -9 }, func(x *tried) { x.call = math.MaxInt }, func(x *tried) { x.call = math.MinInt },
			func(x *tried) { x.quorum = 0 }, func(x *tried) { x.quorum = 4 }, func(x *tried) { x.quorum = -1 }, func(x *tried) { x.quorum = math.MaxInt }, func(x *tried) { x.quorum = math.MinInt },
		}},
		{api.ErrSet, wrongTokens()},
		{api.ErrCall, []func(x *tried){func(x *tried) {
			if x.call == 1 {
				x.call = 9
			}
		}}},
	}
}

// unlike: the key, if it is one that is refused already.
func unlike(key, other string) string {
	if key != "p" {
		return key
	}
	return other
}

// wrongTokens: sets that don't fit five, with the Count 1.
func wrongTokens() []func(x *tried) {
	var out []func(x *tried)
	for _, s := range [][]api.Span{
		spans(sp(5, 1)), spans(sp(7, 1)), spans(sp(8, 1)), spans(sp(-1, 1)), spans(sp(0, 2)), spans(far(0, 0, 2)), spans(sp(0, 0)), spans(far(0, 0, 1)), spans(sp(0, -1)),
		spans(sp(1, 1), sp(0, 1)), spans(sp(1, 1), sp(1, 1)), spans(sp(0, 1), sp(4, 2)), spans(sp(0, api.MaxCount+1)), spans(far(0, 0, 1<<6)), spans(far(math.MaxInt, math.MinInt, math.MaxUint64)),
	} {
		out = append(out, func(x *tried) { x.token = s })
	}
	return out
}

// ready: node 0 of five, whose count in the range of p is at its bound, and whose call 9 has begun.
func ready(t *testing.T) *place {
	t.Helper()
	c := five()
	c.Count = 1
	p := fresh(t, c, 0)
	p.put(9, "p")
	return p
}

// faulty: a call with the faults that the mask names, and the error of the first of them; without any it is what comes at last.
func faulty(all []fault, mask, way int, last api.Errno) (tried, api.Errno) {
	x, want := tried{call: 1, key: "p", quorum: 1}, last
	for i := len(all) - 1; i >= 0; i-- {
		if mask>>i&1 == 1 {
			all[i].ways[way%len(all[i].ways)](&x)
			want = all[i].want
		}
	}
	return x, want
}

// TestP1402Order: every choice of faults: the one that is named first is answered, and nothing has changed.
func TestP1402Order(t *testing.T) {
	p, down := ready(t), ready(t)
	down.d.Off()
	all := faults()
	for mask := range 1 << len(all) {
		for way := range 15 {
			x, want := faulty(all, mask, way, api.ErrCount) // what Mint says comes at last
			p.wantNo(fmt.Sprintf("Put of %+v", x), want, func() (api.Acts, api.Errno) { return x.put(p.n) })
			down.wantNo(fmt.Sprintf("Put of %+v at one that is down", x), api.ErrDown, func() (api.Acts, api.Errno) { return x.put(down.n) })
		}
	}
}

// TestP1403Order: a Get is refused for the key, the range, the numbers and a call that has begun, in this order.
func TestP1403Order(t *testing.T) {
	p, down := ready(t), ready(t)
	down.d.Off()
	f := faults()
	all := []fault{f[0], f[3], f[4], f[6]}
	for mask := 1; mask < 1<<len(all); mask++ {
		for way := range 15 {
			x, want := faulty(all, mask, way, api.OK)
			p.wantNo(fmt.Sprintf("Get of %+v", x), want, func() (api.Acts, api.Errno) { return x.get(p.n) })
			down.wantNo(fmt.Sprintf("Get of %+v at one that is down", x), api.ErrDown, func() (api.Acts, api.Errno) { return x.get(down.n) })
		}
	}
}

// TestP1402MintRefuses: the errors of Mint; the call has not begun then, and its number is free.
func TestP1402MintRefuses(t *testing.T) {
	c := three()
	c.Siblings, c.Keys, c.Count = 1, 2, 5
	p := fresh(t, c, atP)
	p.put(1, "k")
	no := func(what string, x tried, want api.Errno) {
		t.Helper()
		x.call, x.quorum = 2, 1
		p.wantNo(what, want, func() (api.Acts, api.Errno) { return x.put(p.n) })
	}
	no("a second sibling", tried{key: "k"}, api.ErrSiblings)
	no("a token with the own dot", tried{key: "k", token: spans(sp(atP, 2))}, api.ErrWrite)
	p.put(2, "j")
	p.wantNo("a number that was used at last", api.ErrCall, func() (api.Acts, api.Errno) { return p.n.Put(2, "i", false, nil, nil, 1, false) })
	for call := 3; call <= 5; call++ {
		p.wantNo("a third key", api.ErrKeys, func() (api.Acts, api.Errno) { return p.n.Put(call, "i", true, nil, nil, 1, false) })
		p.put(call, "k", sp(atP, call-1))
	}
	p.wantNo("a count at its bound", api.ErrCount, func() (api.Acts, api.Errno) { return p.n.Put(6, "k", false, nil, spans(sp(atP, 5)), 1, false) })
	p.does(p.n.Get(6, "k", 1, false))
}

// TestP1402MintGap: of the node's own dots one comes from elsewhere, far ahead.
func TestP1402MintGap(t *testing.T) {
	p := fresh(t, three(), atP)
	p.take(msgStore(atQ, atP, 0, wr("k", atP, 4)))
	p.wantNo("beyond the gap", api.ErrGap, func() (api.Acts, api.Errno) { return p.n.Put(1, "k", false, nil, nil, 1, false) })
	p.take(msgStore(atQ, atP, 0, wr("k", atP, 1)))
	p.does(p.n.Put(1, "j", false, nil, nil, 1, false))
	p.wantRead("j", api.Write{Dot: dot(atP, 5), Key: "j"})
}

// TestP1402Edges: all that is at its limit is well.
func TestP1402Edges(t *testing.T) {
	p := fresh(t, three(), atP)
	key, value := strings.Repeat("k", 16), make([]byte, 64)
	w := api.Write{Dot: dot(atP, 1), Key: key, Value: value, Ctx: spans(sp(0, 100), far(1, 0, 8), far(2, 98, 2))}
	p.want("Put", send(msgStore(atP, atQ, 4096, w)))(p.n.Put(4096, key, false, value, w.Ctx, 2, true))
	gone := api.Write{Dot: dot(atP, 2), Key: "\x00", Dead: true}
	p.want("Put of a dead write", api.Acts{Send: []api.Msg{msgStore(atP, atQ, 1, gone)}, Done: []api.Done{doneOK(1, gone)}})(p.n.Put(1, "\x00", true, nil, nil, 1, false))
	p.wantRead(key, w)
	p.wantRead("\x00", gone)
	p.want("Get", send(msgAsk(atP, atQ, 4095, key)))(p.n.Get(4095, key, 2, false))
	p.wantCalls(4095, 4096)
}

// TestP1402Acts: the acts are coord's, without timers; the write is stored, with the token as its context.
func TestP1402Acts(t *testing.T) {
	p := fresh(t, five(), 4)
	first := wr("k", 4, 1)
	p.want("Put with quorum 1", api.Acts{
		Send: []api.Msg{msgStore(4, 2, 7, first), msgStore(4, 3, 7, first)}, Done: []api.Done{doneOK(7, first)},
	})(p.n.Put(7, "k", false, []byte("v"), nil, 1, false))
	p.wantCalls()
	p.wantTimers(tm(20, 3, 1, 7), tm(30, 1, 3, 0), tm(50, 2, 2, 0))
	second := wr("k", 4, 2, sp(4, 1))
	p.want("Put with quorum 3", send(msgStore(4, 2, 8, second), msgStore(4, 3, 8, second)))(p.n.Put(8, "k", false, []byte("v"), spans(sp(4, 1)), 3, true))
	p.wantCalls(8)
	p.wantRead("k", second)
	other := wr("p", 4, 1)
	p.want("Put in another range", send(msgStore(4, 2, 9, other), msgStore(4, 0, 9, other)))(p.n.Put(9, "p", false, []byte("v"), nil, 2, false))
	p.wantClock(1, sp(4, 2))
	p.wantClock(2, sp(4, 1))

	p.handle(msgStored(3, 4, 8, 3), api.Acts{})
	p.handle(msgStored(3, 4, 8, 3), api.Acts{})
	p.handle(msgStored(2, 4, 8, 2), done(doneOK(8, second)))
	p.wantCalls(9)
}

// TestP1402Alone: a node that has nobody beside it answers at once, and arms nothing.
func TestP1402Alone(t *testing.T) {
	p := fresh(t, alone(), 0)
	w := wr("k", 0, 1)
	p.want("Put", done(doneOK(1, w)))(p.n.Put(1, "k", false, []byte("v"), nil, 1, true))
	p.want("Get", done(got(2, spans(sp(0, 1)), w)))(p.n.Get(2, "k", 1, true))
	p.wantTimers(tm(30, 1, 3, 0), tm(50, 2, 2, 0))
	p.wantCalls()
}

// TestP1402NumbersStayUsed: by Puts and Gets, ended or open, answered or not.
func TestP1402NumbersStayUsed(t *testing.T) {
	p := fresh(t, three(), atP)
	p.does(p.n.Put(1, "k", false, nil, nil, 2, false)) // open
	p.does(p.n.Get(2, "k", 2, false))                  // open
	p.put(3, "k", sp(atP, 1))                          // answered, and open
	p.does(p.n.Get(4, "k", 1, false))                  // ended
	p.does(p.n.Put(5, "j", false, nil, nil, 2, false))
	p.take(msgStored(atQ, atP, 5, atQ)) // ended
	p.does(p.n.Get(6, "k", 2, false))
	for range 5 { // the timers of 1, 2, 3, 5, 6: all have ended
		p.does(p.n.Fire(0))
	}
	for call := 1; call <= 6; call++ {
		x := tried{call: call, key: "k", quorum: 1}
		p.wantNo(fmt.Sprintf("Put %d", call), api.ErrCall, func() (api.Acts, api.Errno) { return x.put(p.n) })
		p.wantNo(fmt.Sprintf("Get %d", call), api.ErrCall, func() (api.Acts, api.Errno) { return x.get(p.n) })
	}
	p.does(p.n.Get(7, "k", 1, false))
}

// TestP1403Acts: what the node stores and knows itself is told first; the others are asked in their order.
func TestP1403Acts(t *testing.T) {
	p := fresh(t, five(), 4)
	w := p.put(1, "k")
	p.take(msgStore(2, 4, 0, wr("a", 2, 2)), msgStore(2, 4, 0, wr("a", 3, 1)))
	p.want("Get with quorum 1", api.Acts{
		Send: []api.Msg{msgAsk(4, 2, 2, "k"), msgAsk(4, 3, 2, "k")}, Done: []api.Done{got(2, spans(sp(3, 1), sp(4, 1)), w)},
	})(p.n.Get(2, "k", 1, false))
	p.want("Get with quorum 2", send(msgAsk(4, 2, 3, "k"), msgAsk(4, 3, 3, "k")))(p.n.Get(3, "k", 2, true))
	p.wantTimers(tm(20, 3, 1, 1), tm(20, 4, 1, 3), tm(30, 1, 3, 0), tm(50, 2, 2, 0))
	p.wantCalls(3)
	p.want("Get of a key that is not there", api.Acts{
		Send: []api.Msg{msgAsk(4, 2, 4, "q"), msgAsk(4, 0, 4, "q")}, Done: []api.Done{got(4, nil)},
	})(p.n.Get(4, "q", 1, false))
	p.handle(msgTell(2, 4, 3, "k", spans(sp(2, 1)), wr("k", 2, 1)), api.Acts{
		Send: []api.Msg{msgStore(4, 2, 0, w)}, Done: []api.Done{got(3, spans(sp(2, 1), sp(3, 1), sp(4, 1)), wr("k", 2, 1), w)},
	})
}

// TestP1404OwnReads: what a Get has gathered is stored here too, ahead of the answer.
func TestP1404OwnReads(t *testing.T) {
	p := fresh(t, five(), 4)
	w := p.put(1, "k")
	p.does(p.n.Get(2, "k", 3, true))
	u, gone := wr("k", 2, 1), api.Write{Dot: dot(3, 2), Key: "k", Dead: true, Ctx: spans(sp(4, 1))}
	p.handle(msgTell(3, 4, 2, "k", nil, gone), api.Acts{})
	p.wantRead("k", w) // not yet
	wrote := p.d.Writes()
	p.handle(msgTell(2, 4, 2, "k", nil, u), api.Acts{
		Send: []api.Msg{msgStore(4, 2, 0, gone), msgStore(4, 3, 0, u)}, Done: []api.Done{got(2, spans(sp(2, 1), far(3, 0, 2), sp(4, 1)), u, gone)},
	})
	p.wantRead("k", u, gone)
	p.wantClock(1, sp(2, 1), far(3, 0, 2), sp(4, 1))
	if got := p.d.Writes() - wrote; got != 18 {
		t.Errorf("%d raw writes; want two commits of 9", got)
	}
	p.restart()
	p.wantRead("k", u, gone)
}

// TestP1404OwnReadsFound: what stand-ins have found, too.
func TestP1404OwnReadsFound(t *testing.T) {
	p := fresh(t, five(), 4)
	p.does(p.n.Get(1, "k", 2, true))
	p.want("Fire", send(msgSeek(4, 0, 1, 2, "k"), msgSeek(4, 1, 1, 3, "k")))(p.n.Fire(0))
	w := wr("k", 3, 4)
	p.handle(msgFound(1, 4, 1, 3, "k", w), done(got(1, spans(far(3, 0, 8)), w)))
	p.wantRead("k", w)
}

// TestP1404OwnReadsRefused: what the own store refuses is let go, and the others are taken, in their order.
func TestP1404OwnReadsRefused(t *testing.T) {
	p := fresh(t, three(), atP)
	w := p.put(1, "k")
	p.does(p.n.Get(2, "k", 2, false))
	ahead, near, third := wr("k", 0, 9), wr("k", 2, 1), wr("k", 2, 2)
	p.handle(msgTell(atQ, atP, 2, "k", spans(sp(0, 8)), ahead, near, third), api.Acts{
		Send: []api.Msg{msgStore(atP, atQ, 0, w)}, Done: []api.Done{got(2, spans(sp(0, 9), sp(1, 1), sp(2, 2)), ahead, w, near, third)},
	})
	p.wantRead("k", w, near) // 0.9 lies beyond the gap; behind 2.1 there are as many siblings as may be
	p.wantClock(0, sp(1, 1), sp(2, 1))

	p.put(3, "j")
	p.does(p.n.Get(4, "i", 2, false))
	wrote := p.d.Writes()
	more := wr("i", 2, 3)
	p.handle(msgTell(atQ, atP, 4, "i", spans(sp(2, 3)), more), done(got(4, spans(sp(1, 2), sp(2, 3)), more)))
	p.wantRead("i") // one key too many
	if p.d.Writes() != wrote {
		t.Errorf("%d raw writes", p.d.Writes()-wrote)
	}
}

// TestP1404OwnReadsPower: wherever the power fails among them, the node is down and tells nothing, the writes ahead are stored, one commit each.
func TestP1404OwnReadsPower(t *testing.T) {
	u, gone := wr("k", 2, 1), api.Write{Dot: dot(3, 2), Key: "k", Dead: true}
	for after := range 19 {
		for _, torn := range []int{0, 9, 511, 512} {
			p := fresh(t, five(), 4)
			w := p.put(1, "k")
			p.does(p.n.Get(2, "k", 2, false))
			p.d.Arm(after, torn)
			a, err := p.n.Handle(bytesOf(t, msgTell(2, 4, 2, "k", nil, u, gone)))
			if down := after < 18; down != (err == api.ErrDown) || down != p.n.Down() || down != (showActs(a) == "") {
				t.Errorf("power for %d raw writes and %d bytes: %d, %s", after, torn, err, showActs(a))
			}
			p.restart()
			commits := after / 9
			if after%9 == 8 && torn >= 511 {
				commits++ // the root is whole (its last byte is 0 as it was), and then the power fails
			}
			stored := [][]api.Write{list(w), list(u, w), list(u, gone, w)}
			p.wantRead("k", stored[commits]...)
		}
	}
}
