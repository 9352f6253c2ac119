package node

import (
	"fmt"
	"math"
	"testing"

	"rookery/api"
)

// TestP1405Refused: no such timer; a node that is down has none at all.
func TestP1405Refused(t *testing.T) {
	p := fresh(t, three(), atP)
	for _, k := range []int{-1, 2, 3, math.MinInt, math.MaxInt} {
		p.wantNo(fmt.Sprintf("Fire(%d)", k), api.ErrTimer, func() (api.Acts, api.Errno) { return p.n.Fire(k) })
	}
	p.does(p.n.Get(1, "k", 2, false))
	p.wantNo("Fire(3)", api.ErrTimer, func() (api.Acts, api.Errno) { return p.n.Fire(3) })
	p.d.Off()
	for _, k := range []int{-1, 0, 1, 9} {
		p.wantNo(fmt.Sprintf("Fire(%d)", k), api.ErrDown, func() (api.Acts, api.Errno) { return p.n.Fire(k) })
	}
}

// TestP1405AnyOrder: any of the timers may be fired; what is armed is due behind the latest that was.
func TestP1405AnyOrder(t *testing.T) {
	p := fresh(t, three(), atP)
	p.want("Fire(1), TimeHand", api.Acts{})(p.n.Fire(1))
	p.wantTimers(tm(30, 1, 3, 0), tm(100, 3, 2, 0))
	p.want("Fire(0), TimeSync, late", send(msgClock(atP, atQ, 0)))(p.n.Fire(0))
	p.wantTimers(tm(80, 4, 3, 0), tm(100, 3, 2, 0)) // Now is 50 still
	p.does(p.n.Put(9, "k", false, nil, nil, 2, false))
	p.wantTimers(tm(70, 5, 1, 9), tm(80, 4, 3, 0), tm(100, 3, 2, 0))
	p.want("Fire(2)", api.Acts{})(p.n.Fire(2))
	p.wantTimers(tm(70, 5, 1, 9), tm(80, 4, 3, 0), tm(150, 6, 2, 0))
	p.want("Fire(1)", send(msgClock(atP, atQ, 0, sp(atP, 1))))(p.n.Fire(1))
	p.wantTimers(tm(70, 5, 1, 9), tm(130, 7, 3, 0), tm(150, 6, 2, 0))
	p.want("Fire(0)", done(late(9)))(p.n.Fire(0))
	p.wantTimers(tm(130, 7, 3, 0), tm(150, 6, 2, 0))
}

// TestP1405CallStrict: without a quorum the call ends; with one, it has ended, and nobody is told.
func TestP1405CallStrict(t *testing.T) {
	p := fresh(t, five(), 4)
	p.does(p.n.Put(1, "k", false, nil, nil, 2, false))
	p.does(p.n.Get(2, "k", 3, false))
	p.does(p.n.Put(3, "a", false, nil, nil, 1, false))
	p.take(msgTell(2, 4, 2, "k", nil))
	p.wantTimers(tm(20, 3, 1, 1), tm(20, 4, 1, 2), tm(20, 5, 1, 3), tm(30, 1, 3, 0), tm(50, 2, 2, 0))
	p.want("Get's", done(late(2)))(p.n.Fire(1))
	p.want("Put's", done(late(1)))(p.n.Fire(0))
	p.want("that of the answered Put", api.Acts{})(p.n.Fire(0))
	p.wantCalls()
	p.handle(msgStored(2, 4, 1, 2), api.Acts{})
	p.wantTimers(tm(30, 1, 3, 0), tm(50, 2, 2, 0))
}

// TestP1405CallSloppy: the stand-ins are asked, the timer is armed again, 20 behind Now; then the call ends.
func TestP1405CallSloppy(t *testing.T) {
	p := fresh(t, five(), 4)
	w := api.Write{Dot: dot(4, 1), Key: "k"}
	p.does(p.n.Put(1, "k", false, nil, nil, 3, true))
	p.does(p.n.Get(2, "k", 3, true))
	p.take(msgStored(2, 4, 1, 2))
	p.want("Put's", send(msgKeep(4, 0, 1, 3, w)))(p.n.Fire(0))
	p.want("Get's", send(msgSeek(4, 0, 2, 2, "k"), msgSeek(4, 1, 2, 3, "k")))(p.n.Fire(0))
	p.wantTimers(tm(30, 1, 3, 0), tm(40, 5, 1, 1), tm(40, 6, 1, 2), tm(50, 2, 2, 0))
	p.does(p.n.Fire(3)) // Now is 50
	p.want("Put's, again", done(late(1)))(p.n.Fire(1))
	p.want("Get's, again", done(late(2)))(p.n.Fire(1))
	p.wantTimers(tm(30, 1, 3, 0), tm(100, 7, 2, 0))
}

// TestP1405Hand: all that is kept goes back, each time, until its owner has said that it lasts.
func TestP1405Hand(t *testing.T) {
	s := fresh(t, three(), atS)
	s.want("TimeHand, nothing is kept", api.Acts{})(s.n.Fire(1))
	w, u := wr("k", atP, 1), wr("j", atQ, 3)
	s.take(msgKeep(atP, atS, 9, atQ, w), msgKeep(atQ, atS, 9, atP, u))
	for i := range 3 {
		s.want("TimeHand", send(msgBack(atS, atP, u), msgBack(atS, atQ, w)))(s.n.Fire(1))
		s.wantTimers(tm(30, 1, 3, 0), tm(150+50*i, 4+i, 2, 0))
	}
	s.take(msgTook(atP, atS, "j", u.Dot))
	s.want("TimeHand", send(msgBack(atS, atQ, w)))(s.n.Fire(1))
}

// TestP1405Sync: the pairs have their turns, one behind the other; a node without any is asked in vain.
func TestP1405Sync(t *testing.T) {
	p := fresh(t, five(), 4)
	p.put(1, "k")
	p.does(p.n.Fire(0)) // that of the call
	for i, want := range []api.Msg{msgClock(4, 2, 1, sp(4, 1)), msgClock(4, 3, 1, sp(4, 1)), msgClock(4, 0, 2), msgClock(4, 2, 2), msgClock(4, 2, 1, sp(4, 1))} {
		p.want("TimeSync", send(want))(p.fire(api.TimeSync))
		p.wantTimers(tm(50, 2, 2, 0), tm(60+30*i, 4+i, 3, 0))
	}
	for _, x := range []*place{fresh(t, three(), atS), fresh(t, alone(), 0)} {
		x.want("TimeSync without a pair", api.Acts{})(x.fire(api.TimeSync))
		x.want("TimeSync without a pair", api.Acts{})(x.fire(api.TimeSync))
		x.wantTimers(tm(50, 2, 2, 0), tm(90, 4, 3, 0))
	}
}

// TestP1406See: all that is stored, all timers, and the calls without an answer; it changes nothing.
func TestP1406See(t *testing.T) {
	p := fresh(t, five(), 4)
	w := p.put(3, "k")
	p.does(p.n.Get(2, "k", 2, false))
	p.does(p.n.Put(1, "p", false, nil, nil, 3, true))
	u := wr("g", 1, 5)
	p.take(msgKeep(1, 4, 8, 3, u))
	want := api.Sight{
		Up: true, Calls: []int{1, 2}, Timers: []api.Timer{tm(20, 3, 1, 3), tm(20, 4, 1, 2), tm(20, 5, 1, 1), tm(30, 1, 3, 0), tm(50, 2, 2, 0)},
		State: api.State{
			Gen: 1, Keys: [][]api.Write{list(w), list(api.Write{Dot: dot(4, 1), Key: "p"})},
			Clocks: []api.Clock{{Range: 1, Set: spans(sp(4, 1))}, {Range: 2, Set: spans(sp(4, 1))}}, Hints: []api.Hint{{Owner: 3, Write: u}},
		},
	}
	wrote := p.d.Writes()
	for range 3 {
		if got := showSight(p.n.See()); got != showSight(want) || p.n.Down() {
			t.Errorf("%s; want %s", got, showSight(want))
		}
	}
	if p.d.Writes() != wrote {
		t.Errorf("See: %d raw writes", p.d.Writes()-wrote)
	}
}
