package coord

import (
	"math"
	"slices"
	"testing"

	"rookery/api"
)

func TestP1101New(t *testing.T) {
	for _, me := range []int{math.MinInt, -1, 0, 3, 7, 8, 9, math.MaxInt} {
		for _, gap := range []int{math.MinInt, -1, 0, 1, 4, 64, 65, math.MaxInt} {
			want := api.OK
			if me < 0 || me > 7 {
				want = api.ErrNode
			} else if gap < 1 || gap > 64 {
				want = api.ErrArg
			}
			c, err := New(me, gap)
			if err != want || (c != nil) != (want == api.OK) {
				t.Errorf("New(%d, %d): %v, %d; want %d", me, gap, c != nil, err, want)
			}
			if c != nil {
				wantCalls(t, c)
			}
		}
	}
}

// refusals: rows of wrong numbers, for a coordinator of node 0 whose call 7 is open.
func refusals() []struct {
	what             string
	call             int
	prefer, standins []int
	quorum           int
	want             api.Errno
} {
	return []struct {
		what             string
		call             int
		prefer, standins []int
		quorum           int
		want             api.Errno
	}{
		{"call 0", 0, prefer(), standins(), 1, api.ErrArg},
		{"call -1", -1, prefer(), standins(), 1, api.ErrArg},
		{"the least call", math.MinInt, prefer(), standins(), 1, api.ErrArg},
		{"nobody preferred", 9, nil, standins(), 1, api.ErrArg},
		{"nobody preferred, quorum 0", 9, []int{}, nil, 0, api.ErrArg},
		{"prefer -1", 9, []int{0, -1}, standins(), 1, api.ErrArg},
		{"prefer 8", 9, []int{8, 0}, standins(), 1, api.ErrArg},
		{"prefer the greatest", 9, []int{0, math.MaxInt}, nil, 1, api.ErrArg},
		{"stand-in -1", 9, prefer(), []int{3, -1}, 1, api.ErrArg},
		{"stand-in 8", 9, prefer(), []int{8}, 1, api.ErrArg},
		{"stand-in the least", 9, prefer(), []int{math.MinInt}, 1, api.ErrArg},
		{"me twice", 9, []int{0, 0}, nil, 1, api.ErrArg},
		{"another one twice", 9, []int{0, 1, 2, 1}, nil, 1, api.ErrArg},
		{"a stand-in twice", 9, prefer(), []int{3, 4, 3}, 1, api.ErrArg},
		{"in both", 9, prefer(), []int{3, 2}, 1, api.ErrArg},
		{"me a stand-in too", 9, prefer(), []int{0}, 1, api.ErrArg},
		{"me a stand-in", 9, []int{1, 2}, []int{0}, 1, api.ErrMine},
		{"me nowhere", 9, []int{1, 2}, []int{3}, 1, api.ErrMine},
		{"quorum 0", 9, prefer(), standins(), 0, api.ErrArg},
		{"quorum -1", 9, prefer(), standins(), -1, api.ErrArg},
		{"the least quorum", 9, prefer(), standins(), math.MinInt, api.ErrArg},
		{"quorum 4 of 3", 9, prefer(), standins(), 4, api.ErrArg},
		{"the greatest quorum", 9, prefer(), nil, math.MaxInt, api.ErrArg},
		{"an open call", 7, prefer(), standins(), 1, api.ErrCall},
		{"no nodes ahead of me missing", 9, []int{1, 1}, nil, 1, api.ErrArg},
		{"call 0 ahead of me missing", 0, []int{1, 2}, nil, 1, api.ErrArg},
		{"me missing ahead of the quorum", 9, []int{1, 2}, nil, 9, api.ErrMine},
		{"me missing ahead of an open call", 7, []int{1, 2}, nil, 1, api.ErrMine},
		{"the quorum ahead of an open call", 7, prefer(), nil, 0, api.ErrArg},
	}
}

func TestP1102Refused(t *testing.T) {
	c := fresh(t, 0, 4)
	put(t, c, 7, wr(0, 1), 2, false, stores(7, wr(0, 1)), arm(7))
	for _, x := range refusals() {
		for _, sloppy := range []bool{false, true} {
			got, err := c.Put(x.call, wr(0, 2), x.prefer, x.standins, x.quorum, sloppy)
			wantRefused(t, "Put, "+x.what, got, err, x.want)
			got, err = c.Get(x.call, "k", x.prefer, x.standins, x.quorum, sloppy, list(wr(0, 1)), nil)
			wantRefused(t, "Get, "+x.what, got, err, x.want)
		}
	}
	wantCalls(t, c, 7)
	on(t, c, stored(7, 2, 2), done(7, nil, wr(0, 1)))
}

func TestP1102OpenGet(t *testing.T) {
	c := fresh(t, 0, 4)
	get(t, c, 7, 2, true, nil, nil, asks(7), arm(7))
	got, err := c.Put(7, wr(0, 1), prefer(), standins(), 1, false)
	wantRefused(t, "Put of an open Get's number", got, err, api.ErrCall)
	got, err = c.Get(7, "l", []int{0}, nil, 1, false, nil, nil)
	wantRefused(t, "Get of an open Get's number", got, err, api.ErrCall)
	at(t, c, 7, send(seek(7, 3, 2, "k"), seek(7, 4, 1, "k")), arm(7))
	wantOpen(t, c, 7, true)
	at(t, c, 7, failed(7))
	wantOpen(t, c, 7, false)
}

// TestP1102Limits: what is just right is taken.
func TestP1102Limits(t *testing.T) {
	c, w := fresh(t, 7, 64), wr(7, 1)
	for _, call := range []int{1, math.MaxInt} {
		all := []int{6, 5, 4, 3, 2, 1, 0, 7}
		got, err := c.Put(call, w, all, nil, 8, true)
		var want api.Acts
		for _, n := range all[:7] {
			m := store(call, n, w)
			m.From = 7
			want.Send = append(want.Send, m)
		}
		wantActs(t, "Put to all", got, err, want, arm(call))
	}
	wantCalls(t, c, 1, math.MaxInt)
}

// TestP1102NotAsked: what a call is about is handed on as it is.
func TestP1102NotAsked(t *testing.T) {
	c := fresh(t, 0, 4)
	odd := api.Write{Dot: api.Dot{Node: -5, Count: -9}, Dead: true, Value: []byte("v"), Ctx: spans(sp(9, -1), sp(0, 0))}
	put(t, c, 1, odd, 1, false, stores(1, odd), arm(1), done(1, nil, odd))
	got, err := c.Get(2, "", []int{0}, nil, 1, false, list(odd, wr(0, 1)), spans(sp(9, -1)))
	wantActs(t, "Get of no key", got, err, done(2, nil))
	plain := of("", wr(3, 1))
	got, err = c.Get(3, "", []int{0}, nil, 1, false, list(odd, plain), spans(sp(9, -1)))
	wantActs(t, "Get of no key", got, err, done(3, spans(sp(3, 1)), plain))
}

func TestP1103Put(t *testing.T) {
	w := with("v", wr(0, 5, sp(1, 2, 4)))
	for _, sloppy := range []bool{false, true} {
		c := fresh(t, 0, 4)
		put(t, c, 1, w, 1, sloppy, stores(1, w), arm(1), done(1, nil, w))
		put(t, c, 2, w, 2, sloppy, stores(2, w), arm(2))
		put(t, c, 3, w, 3, sloppy, stores(3, w), arm(3))
		wantCalls(t, c, 2, 3)
		wantOpen(t, c, 1, true)
		got, err := c.Put(4, w, []int{0}, standins(), 1, sloppy)
		wantActs(t, "Put alone", got, err, done(4, nil, w))
		wantOpen(t, c, 4, false)
		at(t, c, 4)
	}
}

// TestP1103Order: in the order of prefer, wherever me stands there.
func TestP1103Order(t *testing.T) {
	c, w := fresh(t, 3, 4), wr(3, 1)
	for i, p := range [][]int{{3, 7, 0}, {7, 3, 0}, {7, 0, 3}} {
		got, err := c.Put(i+1, w, p, nil, 3, false)
		m, n := store(i+1, 7, w), store(i+1, 0, w)
		m.From, n.From = 3, 3
		wantActs(t, "Put", got, err, send(m, n), arm(i+1))
		got, err = c.Get(i+11, "k", p, nil, 3, false, nil, nil)
		m, n = ask(i+11, 7, "k"), ask(i+11, 0, "k")
		m.From, n.From = 3, 3
		wantActs(t, "Get", got, err, send(m, n), arm(i+11))
	}
}

func TestP1104Get(t *testing.T) {
	for _, sloppy := range []bool{false, true} {
		c := fresh(t, 0, 4)
		own := list(wr(0, 2), of("l", wr(1, 1)), wr(2, 1, sp(1, 1)))
		clock := spans(sp(0, 2), sp(1, 0, 3), sp(2, 1, 3, 4))
		get(t, c, 1, 1, sloppy, own, clock, asks(1), done(1, spans(sp(0, 2), sp(1, 1), sp(2, 1)), wr(0, 2), wr(2, 1, sp(1, 1))))
		wantOpen(t, c, 1, false)
		get(t, c, 1, 2, sloppy, own, clock, asks(1), arm(1))
		get(t, c, 2, 3, sloppy, own, clock, asks(2), arm(2))
		wantCalls(t, c, 1, 2)
		got, err := c.Get(3, "l", []int{0}, standins(), 1, sloppy, own, clock)
		wantActs(t, "Get alone", got, err, done(3, spans(sp(0, 2), sp(1, 1), sp(2, 1)), of("l", wr(1, 1))))
		wantOpen(t, c, 3, false)
	}
}

// TestP1104Bases: the node's own clock counts by its bases alone, another's set as it was told.
func TestP1104Bases(t *testing.T) {
	c := fresh(t, 0, 4)
	get(t, c, 1, 2, false, nil, spans(sp(1, 2, 4), sp(3, 0, 2)), asks(1), arm(1))
	on(t, c, tell(1, 2, spans(sp(2, 1, 3))), done(1, spans(sp(1, 2), sp(2, 1, 3))))
	get(t, c, 1, 2, false, nil, spans(sp(1, 2, 60)), asks(1), arm(1))
	on(t, c, tell(1, 2, spans(sp(2, 1, 60))), done(1, spans(sp(1, 2))))
	get(t, c, 1, 2, false, nil, spans(sp(1, 2), sp(1, 2)), asks(1), arm(1))
	on(t, c, tell(1, 2, spans(sp(2, 0))), done(1, nil))
}

func TestP1105OtherKinds(t *testing.T) {
	c := fresh(t, 0, 4)
	put(t, c, 1, wr(0, 1), 2, true, stores(1, wr(0, 1)), arm(1))
	get(t, c, 2, 2, true, nil, nil, asks(2), arm(2))
	taken := []int{api.MsgStored, api.MsgTell, api.MsgFound}
	for _, kind := range []int{math.MinInt, -1, 0, 1, 2, 3, 4, 5, 6, 7, 8, 9, 10, 11, 12, math.MaxInt} {
		if slices.Contains(taken, kind) {
			continue
		}
		for call := range 3 {
			got, err := c.On(api.Msg{Kind: kind, From: 1, Call: call, Owner: 1, Key: "k"})
			wantRefused(t, "On", got, err, api.ErrMsg)
		}
	}
	wantCalls(t, c, 1, 2)
}

// fitCalls: calls of both kinds, each with a stand-in asked, or not yet.
func fitCalls(t *testing.T) *Coord {
	c, w := fresh(t, 0, 4), wr(0, 1)
	put(t, c, 1, w, 3, true, stores(1, w), arm(1))
	put(t, c, 2, w, 3, true, stores(2, w), arm(2))
	at(t, c, 2, send(keep(2, 3, 2, w), keep(2, 4, 1, w)), arm(2))
	get(t, c, 3, 3, true, nil, nil, asks(3), arm(3))
	get(t, c, 4, 3, true, nil, nil, asks(4), arm(4))
	at(t, c, 4, send(seek(4, 3, 2, "k"), seek(4, 4, 1, "k")), arm(4))
	return c
}

// fitsPlainly: P1105's three rules, for the calls of fitCalls.
func fitsPlainly(m api.Msg) bool {
	standin := map[int]int{2: 3, 1: 4}
	owned := m.Owner == 1 || m.Owner == 2
	switch m.Kind {
	case api.MsgStored:
		return owned && (m.Call == 1 && m.From == m.Owner || m.Call == 2 && (m.From == m.Owner || m.From == standin[m.Owner]))
	case api.MsgTell:
		return (m.Call == 3 || m.Call == 4) && m.Key == "k" && (m.From == 1 || m.From == 2)
	}
	return m.Call == 4 && m.Key == "k" && owned && m.From == standin[m.Owner]
}

// TestP1105Fits: every kind, call, sender, owner and key, each at calls of its own. Whether it fitted is told by the calls' ends: two owners were lacking, and one more answer completes those for whom one fitted.
func TestP1105Fits(t *testing.T) {
	numbers := []int{math.MinInt, -1, 0, 1, 2, 3, 4, 5, 8, math.MaxInt}
	fitted := 0
	for _, kind := range []int{api.MsgStored, api.MsgTell, api.MsgFound} {
		for call := range 6 {
			for _, from := range numbers {
				for _, owner := range numbers {
					for _, key := range []string{"k", "l", ""} {
						m := api.Msg{Kind: kind, From: from, To: owner, Call: call, Owner: owner, Key: key}
						c := fitCalls(t)
						on(t, c, m)
						if got := completes(c, m); got != fitsPlainly(m) {
							t.Errorf("On %s: did it fit: %v; want %v", msgText(m), got, !got)
						}
						if fitsPlainly(m) {
							fitted++
						}
					}
				}
			}
		}
	}
	if fitted == 0 {
		t.Error("nothing fitted")
	}
}

// completes: is the call of m answered, once another owner than that of m has answered too?
func completes(c *Coord, m api.Msg) bool {
	owner := m.Owner
	if m.Kind == api.MsgTell {
		owner = m.From
	}
	before := len(c.Calls())
	next := api.Msg{Kind: m.Kind, From: 3 - owner, Call: m.Call, Owner: 3 - owner, Key: "k"}
	if m.Kind == api.MsgFound {
		next.Kind = api.MsgTell
	}
	if _, err := c.On(next); err != api.OK {
		return false
	}
	return len(c.Calls()) == before-1
}

// TestP1105Once: an owner counts once, whoever answers for it again.
func TestP1105Once(t *testing.T) {
	for _, first := range []int{2, 3} {
		c := fitCalls(t)
		on(t, c, stored(2, first, 2))
		on(t, c, stored(2, 2, 2))
		on(t, c, stored(2, 3, 2))
		on(t, c, stored(2, 0, 0))
		on(t, c, stored(2, 1, 1), done(2, nil, wr(0, 1)))
		on(t, c, stored(2, 1, 1))
	}
	c := fitCalls(t)
	on(t, c, tell(4, 2, nil, wr(2, 1)))
	on(t, c, found(4, 3, 2, wr(2, 2)))
	on(t, c, tell(4, 2, nil, wr(2, 3)))
	on(t, c, tell(4, 0, nil, wr(2, 4)))
	on(t, c, tell(4, 1, nil), send(store(0, 1, wr(2, 1))), done(4, spans(sp(2, 1)), wr(2, 1)))
	c = fitCalls(t)
	on(t, c, found(4, 3, 2, wr(2, 2)))
	on(t, c, tell(4, 2, nil, wr(2, 1)))
	on(t, c, found(4, 3, 2, wr(2, 3)))
	on(t, c, tell(4, 1, nil), send(store(0, 1, wr(2, 2))), done(4, spans(sp(2, 0, 2)), wr(2, 2)))
}

func TestP1106Put(t *testing.T) {
	c, w := fresh(t, 0, 4), with("v", wr(0, 3, sp(1, 1)))
	put(t, c, 1, w, 1, false, stores(1, w), arm(1), done(1, nil, w))
	on(t, c, stored(1, 1, 1))
	wantOpen(t, c, 1, true)
	on(t, c, stored(1, 2, 2))
	wantOpen(t, c, 1, false)

	put(t, c, 2, w, 2, false, stores(2, w), arm(2))
	wantCalls(t, c, 2)
	on(t, c, stored(2, 2, 2), done(2, nil, w))
	wantCalls(t, c)
	wantOpen(t, c, 2, true)
	on(t, c, stored(2, 1, 1))
	wantOpen(t, c, 2, false)

	put(t, c, 3, w, 3, false, stores(3, w), arm(3))
	on(t, c, stored(3, 2, 2))
	wantCalls(t, c, 3)
	on(t, c, stored(3, 1, 1), done(3, nil, w))
	wantOpen(t, c, 3, false)
	at(t, c, 3)
}

// TestP1107OwnersInOrder: whatever order the answers come in, all goes by the order of prefer. Of a dot that comes in two forms the first counts.
func TestP1107OwnersInOrder(t *testing.T) {
	two, one := with("two", wr(3, 1)), with("one", wr(3, 1))
	for _, turn := range []bool{false, true} {
		c := fresh(t, 0, 4)
		get(t, c, 1, 3, false, nil, nil, asks(1), arm(1))
		answers := []api.Msg{tell(1, 2, nil, two, wr(2, 1)), tell(1, 1, nil, one, wr(1, 1))}
		if turn {
			slices.Reverse(answers)
		}
		on(t, c, answers[0])
		on(t, c, answers[1], send(store(0, 2, wr(1, 1)), store(0, 1, wr(2, 1))),
			done(1, spans(sp(1, 1), sp(2, 1), sp(3, 1)), wr(1, 1), wr(2, 1), two))
	}
}

// sloppyGet: a Get of the quorum 3 whose stand-ins were asked: 3 for node 2, 4 for node 1.
func sloppyGet(t *testing.T, own []api.Write, clock []api.Span) *Coord {
	t.Helper()
	c := fresh(t, 0, 4)
	get(t, c, 1, 3, true, own, clock, asks(1), arm(1))
	at(t, c, 1, send(seek(1, 3, 2, "k"), seek(1, 4, 1, "k")), arm(1))
	return c
}

// TestP1107ToldAheadOfFound: though the finder's owner stands first in prefer.
func TestP1107ToldAheadOfFound(t *testing.T) {
	c := sloppyGet(t, nil, nil)
	told, kept := with("told", wr(3, 1)), with("found", wr(3, 1))
	on(t, c, found(1, 3, 2, kept))
	on(t, c, tell(1, 1, nil, told), done(1, spans(sp(3, 1)), told))
}

// TestP1107OtherKeys: they are passed over, in what is told and in what is found.
func TestP1107OtherKeys(t *testing.T) {
	c := sloppyGet(t, list(of("l", wr(0, 1)), of("", wr(0, 2))), nil)
	on(t, c, found(1, 3, 2, of("l", wr(1, 1)), wr(1, 2), of("kk", wr(1, 3))))
	on(t, c, tell(1, 1, nil, of("l", wr(2, 1)), wr(2, 2), of("K", wr(2, 3))),
		send(store(0, 1, wr(1, 2))), done(1, spans(sp(1, 0, 2), sp(2, 0, 2)), wr(1, 2), wr(2, 2)))
}

// TestP1107FoundSet: what a stand-in says of a set is not looked at.
func TestP1107FoundSet(t *testing.T) {
	c := sloppyGet(t, nil, nil)
	m := found(1, 3, 2, wr(5, 1))
	m.Set = spans(sp(6, 4))
	on(t, c, m)
	on(t, c, tell(1, 1, nil, wr(5, 1)), done(1, spans(sp(5, 1)), wr(5, 1)))
}

// TestP1107LeftOutOfTold: a told write that does not fit is neither answered nor does it cover one that is.
func TestP1107LeftOutOfTold(t *testing.T) {
	c := fresh(t, 0, 4)
	far := wr(2, 9, sp(0, 1))
	get(t, c, 1, 2, false, list(wr(0, 1)), spans(sp(0, 1)), asks(1), arm(1))
	on(t, c, tell(1, 2, nil, far), send(store(0, 2, wr(0, 1))), done(1, spans(sp(0, 1)), wr(0, 1)))
	get(t, c, 1, 2, false, list(wr(0, 1)), spans(sp(0, 1)), asks(1), arm(1))
	on(t, c, tell(1, 2, spans(sp(2, 5)), far), done(1, spans(sp(0, 1), sp(2, 5, 9)), far))
}

// TestP1107LeftOutOfFound: the same with one that was found.
func TestP1107LeftOutOfFound(t *testing.T) {
	far := wr(2, 9, sp(0, 1))
	c := sloppyGet(t, list(wr(0, 1)), spans(sp(0, 1)))
	on(t, c, found(1, 3, 2, far))
	on(t, c, found(1, 4, 1, wr(2, 1)), done(1, spans(sp(0, 1), sp(2, 1)), wr(0, 1), wr(2, 1)))
	c = sloppyGet(t, list(wr(0, 1)), spans(sp(0, 1)))
	on(t, c, found(1, 3, 2, far))
	on(t, c, tell(1, 1, spans(sp(2, 5))), send(store(0, 1, far)), done(1, spans(sp(0, 1), sp(2, 5, 9)), far))
}

// TestP1107OneCopyFits: of a dot that was told and found, the copy that fits is answered, as the token has it.
func TestP1107OneCopyFits(t *testing.T) {
	good, bad := wr(5, 1), wr(5, 1, sp(9, 9))
	for _, x := range []struct{ told, found api.Write }{{good, bad}, {bad, good}} {
		c := sloppyGet(t, nil, nil)
		on(t, c, found(1, 3, 2, x.found))
		on(t, c, tell(1, 1, nil, x.told), done(1, spans(sp(5, 1)), good))
	}
	// And where the told one fits only behind the base that a found one brings.
	c := sloppyGet(t, nil, nil)
	late := wr(5, 8)
	on(t, c, found(1, 3, 2, late, wr(4, 1, sp(5, 4))))
	on(t, c, tell(1, 1, nil, late), send(store(0, 1, wr(4, 1, sp(5, 4)))), done(1, spans(sp(4, 1), sp(5, 4, 8)), wr(4, 1, sp(5, 4)), late))
	c = sloppyGet(t, list(bad), nil)
	on(t, c, found(1, 3, 2))
	on(t, c, tell(1, 1, nil, good), done(1, nil))
}

// TestP1107Repair: to each that has told but me, what it has not told; what was left out of the answer counts as told.
func TestP1107Repair(t *testing.T) {
	c := fresh(t, 0, 4)
	a, b, d := with("a", wr(0, 1)), with("b", wr(1, 1)), with("d", wr(2, 1, sp(3, 1)))
	get(t, c, 1, 3, false, list(a), nil, asks(1), arm(1))
	on(t, c, tell(1, 1, nil, b))
	on(t, c, tell(1, 2, nil, d, wr(3, 1), a), send(store(0, 2, b), store(0, 1, a), store(0, 1, d)),
		done(1, spans(sp(0, 1), sp(1, 1), sp(2, 1), sp(3, 1)), a, b, d))

	c = sloppyGet(t, nil, nil)
	on(t, c, found(1, 3, 2, a, b))
	on(t, c, tell(1, 1, nil, b), send(store(0, 1, a)), done(1, spans(sp(0, 1), sp(1, 1)), a, b))

	bad := wr(5, 1, sp(9, 9))
	c = sloppyGet(t, nil, nil)
	on(t, c, found(1, 3, 2, wr(5, 1)))
	on(t, c, tell(1, 1, nil, bad), done(1, spans(sp(5, 1)), wr(5, 1)))
}

// TestP1107AtTheQuorum: who has not answered by then is not waited for.
func TestP1107AtTheQuorum(t *testing.T) {
	for quorum := 1; quorum <= 3; quorum++ {
		c := fresh(t, 0, 4)
		if quorum == 1 {
			get(t, c, 1, 1, true, list(wr(0, 1)), nil, asks(1), done(1, spans(sp(0, 1)), wr(0, 1)))
		} else {
			get(t, c, 1, quorum, true, nil, nil, asks(1), arm(1))
		}
		if quorum == 2 {
			on(t, c, tell(1, 1, nil), done(1, nil))
		}
		if quorum == 3 {
			on(t, c, tell(1, 1, nil))
			wantCalls(t, c, 1)
			on(t, c, tell(1, 2, nil), done(1, nil))
		}
		wantCalls(t, c)
		wantOpen(t, c, 1, false)
		on(t, c, tell(1, 1, nil, wr(1, 1)))
		on(t, c, tell(1, 2, nil, wr(1, 1)))
		at(t, c, 1)
	}
}

func TestP1108Strict(t *testing.T) {
	c, w := fresh(t, 0, 4), wr(0, 1)
	put(t, c, 1, w, 2, false, stores(1, w), arm(1))
	at(t, c, 1, failed(1))
	wantOpen(t, c, 1, false)
	at(t, c, 1)
	on(t, c, stored(1, 1, 1))
	put(t, c, 1, w, 1, false, stores(1, w), arm(1), done(1, nil, w))
	at(t, c, 1)
	wantOpen(t, c, 1, false)
	get(t, c, 1, 3, false, list(w), spans(sp(0, 1)), asks(1), arm(1))
	on(t, c, tell(1, 2, nil, wr(1, 1)))
	at(t, c, 1, failed(1))
	wantOpen(t, c, 1, false)
	at(t, c, 1)
}

func TestP1108NoSuchCall(t *testing.T) {
	c := fresh(t, 0, 4)
	get(t, c, 5, 2, false, nil, nil, asks(5), arm(5))
	for _, call := range []int{math.MinInt, -1, 0, 1, 4, 6, math.MaxInt} {
		at(t, c, call)
	}
	wantCalls(t, c, 5)
}

func TestP1108Sloppy(t *testing.T) {
	c, w := fresh(t, 0, 4), with("v", wr(0, 1))
	// Only in place of those that are silent.
	put(t, c, 1, w, 3, true, stores(1, w), arm(1))
	on(t, c, stored(1, 2, 2))
	at(t, c, 1, send(keep(1, 3, 1, w)), arm(1))
	on(t, c, stored(1, 4, 1))
	on(t, c, stored(1, 3, 1), done(1, nil, w))
	wantOpen(t, c, 1, false)
	// An answered Put goes on for the others.
	put(t, c, 2, w, 1, true, stores(2, w), arm(2), done(2, nil, w))
	at(t, c, 2, send(keep(2, 3, 2, w), keep(2, 4, 1, w)), arm(2))
	on(t, c, stored(2, 3, 2))
	at(t, c, 2)
	wantOpen(t, c, 2, false)
	// At last it ends, with what it has; an owner itself may answer still.
	get(t, c, 3, 3, true, nil, nil, asks(3), arm(3))
	at(t, c, 3, send(seek(3, 3, 2, "k"), seek(3, 4, 1, "k")), arm(3))
	on(t, c, tell(3, 2, nil))
	wantCalls(t, c, 3)
	at(t, c, 3, failed(3))
	wantOpen(t, c, 3, false)
	at(t, c, 3)
}

// TestP1108TooFewStandins: the first silent ones have them; the timer is armed all the same.
func TestP1108TooFewStandins(t *testing.T) {
	c, w := fresh(t, 0, 4), wr(0, 1)
	all := []int{5, 1, 0, 2, 7}
	for i, x := range []struct {
		standins []int
		want     []api.Msg
	}{
		{nil, nil},
		{[]int{6}, []api.Msg{keep(2, 6, 5, w)}},
		{[]int{6, 3}, []api.Msg{keep(3, 6, 5, w), keep(3, 3, 2, w)}},
		{[]int{4, 6, 3}, []api.Msg{keep(4, 4, 5, w), keep(4, 6, 2, w), keep(4, 3, 7, w)}},
	} {
		call := i + 1
		if _, err := c.Put(call, w, all, x.standins, 5, true); err != api.OK {
			t.Fatalf("Put: %d", err)
		}
		on(t, c, stored(call, 1, 1))
		at(t, c, call, send(x.want...), arm(call))
		at(t, c, call, failed(call))
	}
}

func TestP1109Calls(t *testing.T) {
	c, w := fresh(t, 0, 4), wr(0, 1)
	wantCalls(t, c)
	for _, call := range []int{40, 3, math.MaxInt, 1, 17} {
		put(t, c, call, w, 2, call == 3, stores(call, w), arm(call))
	}
	get(t, c, 9, 2, true, nil, nil, asks(9), arm(9))
	get(t, c, 10, 1, true, nil, nil, asks(10), done(10, nil))
	put(t, c, 11, w, 1, true, stores(11, w), arm(11), done(11, nil, w))
	wantCalls(t, c, 1, 3, 9, 17, 40, math.MaxInt)
	on(t, c, stored(17, 1, 1), done(17, nil, w))
	at(t, c, 40, failed(40))
	at(t, c, 3, send(keep(3, 3, 2, w), keep(3, 4, 1, w)), arm(3))
	on(t, c, tell(9, 1, nil), done(9, nil))
	wantCalls(t, c, 1, 3, math.MaxInt)
	for call, open := range map[int]bool{1: true, 3: true, 9: false, 10: false, 11: true, 17: true, 40: false} {
		wantOpen(t, c, call, open)
	}
}
