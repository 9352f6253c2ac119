package cluster

import (
	"math"
	"strings"
	"testing"

	"rookery/api"
)

// TestP1602Numbers: from 1 on, over all nodes and sessions; what is refused has none.
func TestP1602Numbers(t *testing.T) {
	p := fresh(t, five())
	for i, s := range []api.Step{putting(2, "k", "a", 1), getting(4, "k", 3), writing(0, "g", "b", 2), rereading(5, "b", 1)} {
		if a := p.Do(s); a.Err != api.OK || a.Call != i+1 {
			t.Errorf("%+v: %s; want the call %d", s, showAnswer(a), i+1)
		}
		for _, no := range []struct {
			api.Step
			want api.Errno
		}{
			{putting(0, "k", "a", 1), api.ErrMine}, {putting(2, "", "a", 1), api.ErrKey}, {putting(2, "k", "a", 4), api.ErrArg}, {putting(2, "k", "a", 0), api.ErrArg}, {putting(2, "k", strings.Repeat("v", 65), 1), api.ErrLong},
			{api.Step{Kind: api.StepPut, Node: 2, Key: "k", Value: []byte("v"), Dead: true, Quorum: 1}, api.ErrArg}, {getting(0, "k", 1), api.ErrMine}, {getting(2, strings.Repeat("k", 17), 1), api.ErrKey}, {getting(2, "k", 4), api.ErrArg},
			{behind(putting(2, "k", "a", 1), 99), api.ErrToken}, {putting(5, "k", "a", 1), api.ErrNode}, {getting(-1, "k", 1), api.ErrNode},
		} {
			p.refuses(no.Step, no.want)
		}
		p.want(writing(7, "k", "a", 9), api.Answer{Err: api.ErrArg, Node: 2})
		p.want(rereading(7, "k", 0), api.Answer{Err: api.ErrArg, Node: 2})
	}
}

// TestP1602MaxCalls: at the limit all is well, one past it is refused; behind ErrDown, ahead of all that a call says.
func TestP1602MaxCalls(t *testing.T) {
	p := fresh(t, three())
	p.does(crashing(atQ))
	for i := range api.MaxCalls {
		if a := p.Do(getting(atP, "k", 1)); a.Err != api.OK || a.Call != i+1 {
			t.Fatalf("the Get %d: %s", i+1, showAnswer(a))
		}
		p.Do(dropping(0))
	}
	p.refuses(getting(atP, "k", 1), api.ErrLong)
	p.refuses(getting(atP, "", 1), api.ErrLong)
	p.refuses(putting(atP, "k", "v", 1), api.ErrLong)
	p.refuses(behind(putting(atP, "k", "v", 1), 5000), api.ErrLong)
	p.refuses(putting(atQ, "k", "v", 1), api.ErrDown)
	p.refuses(getting(atQ, "k", 1), api.ErrDown)
	p.want(writing(0, "k", "v", 1), api.Answer{Err: api.ErrLong, Node: atP})
	p.want(rereading(0, "k", 1), api.Answer{Err: api.ErrLong, Node: atP})
	p.refuses(rereading(0, "", 1), api.ErrKey)
	p.want(writing(2, "k", "v", 1), api.Answer{Err: api.ErrDown, Node: atQ})
	p.wantHeads(2, "k", atP)
	p.does(crashing(atP), restarting(atP))
	p.refuses(getting(atP, "k", 1), api.ErrLong)
}

// TestP1602LastCall: the number MaxCalls is a call like any other: a Put may carry its token no more, but it ends.
func TestP1602LastCall(t *testing.T) {
	p := fresh(t, three())
	for range api.MaxCalls - 1 {
		p.Do(getting(atP, "k", 1))
		p.Do(dropping(0))
	}
	p.want(putting(atP, "k", "v", 2), began(api.MaxCalls))
	p.wantBag(msgStore(atP, atQ, api.MaxCalls, v11))
	p.does(delivering(0))
	p.want(delivering(0), ended(done(api.MaxCalls, v11)))
	p.refuses(putting(atP, "k", "v", 2), api.ErrLong)
}

// TestP1602Tokens: only of a Get of this key that has ended with OK.
func TestP1602Tokens(t *testing.T) {
	p := fresh(t, three())
	no := func(call int) {
		t.Helper()
		p.refuses(behind(putting(atP, "k", "w", 1), call), api.ErrToken)
		p.refuses(behind(putting(atQ, "k", "w", 1), call), api.ErrToken)
	}
	p.does(putting(atP, "k", "v", 1), dropping(0)) // 1
	no(1)
	p.does(getting(atP, "a", 1), dropping(0)) // 2: of another key
	no(2)
	p.does(getting(atP, "k", 2)) // 3: not ended yet
	no(3)
	p.does(firing(atP, p.timerOf(atP, api.TimeCall)), firing(atP, p.timerOf(atP, api.TimeCall)))
	if p.Do(seeing(atP)).Sight.Calls != nil {
		t.Fatalf("the Get has not ended")
	}
	no(3) // it has ended with ErrQuorum
	p.does(dropping(0), getting(atP, "k", 2))
	p.want(crashing(atP), ended(bad(4, api.ErrGone)))
	p.does(restarting(atP), dropping(0))
	no(4)
	for _, call := range []int{5, 6, 4097, -1, math.MaxInt, math.MinInt} {
		no(call)
	}
	p.want(getting(atP, "k", 1), began(5, got(5, spans(sp(atP, 1)), v11)))
	p.does(dropping(0))
	for i, at := range []int{atP, atQ} { // at any node, and as often as one likes
		w := wr("k", "w", at, []int{2, 1}[i], sp(atP, 1))
		p.want(behind(putting(at, "k", "w", 1), 5), began(6+i, done(6+i, w)))
	}
	no(6)
	p.does(crashing(atP), restarting(atP)) // what is remembered is no node's
	p.want(behind(dying(putting(atQ, "k", "", 1)), 5), began(8, done(8, api.Write{Dot: dot(atQ, 2), Key: "k", Dead: true, Ctx: spans(sp(atP, 1))})))
	p.refuses(behind(putting(atP, "a", "w", 1), 5), api.ErrToken)
	p.refuses(behind(putting(atP, "", "w", 1), 5), api.ErrToken)
	p.refuses(behind(putting(atP, "", "w", 1), 99), api.ErrToken) // no call of that number has any key
	p.refuses(behind(putting(atS, "k", "w", 9), 4), api.ErrToken)
	p.refuses(behind(putting(atS, "k", "w", 9), 5), api.ErrMine)
	p.does(crashing(atQ))
	p.refuses(behind(putting(atQ, "k", "w", 1), 4), api.ErrDown)
}

// TestP1602EmptyToken: a Get that has seen nothing has a token all the same; a Put with it covers nothing.
func TestP1602EmptyToken(t *testing.T) {
	p := fresh(t, three())
	p.want(getting(atP, "k", 1), began(1, got(1, nil)))
	p.want(behind(putting(atP, "k", "v", 1), 1), began(2, done(2, v11)))
	p.refuses(behind(putting(atP, "a", "v", 1), 1), api.ErrToken)
}

// TestP1602TokenOfLateGet: it is remembered when the Get ends, in whichever step.
func TestP1602TokenOfLateGet(t *testing.T) {
	p := fresh(t, three())
	w := wr("k", "w", atQ, 1)
	p.does(putting(atP, "k", "v", 1), dropping(0), putting(atQ, "k", "w", 1), dropping(0))
	p.want(getting(atP, "k", 2), began(3))
	p.want(delivering(0), api.Answer{})
	p.refuses(behind(putting(atP, "k", "x", 1), 3), api.ErrToken)
	p.want(delivering(0), ended(got(3, spans(sp(atP, 1), sp(atQ, 1)), v11, w)))
	p.wantKeys(atP, []api.Write{v11, w})
	p.wantBag(msgStore(atP, atQ, 0, v11))
	p.want(behind(putting(atP, "k", "x", 1), 3), began(4, done(4, wr("k", "x", atP, 2, sp(atP, 1), sp(atQ, 1)))))
}

// TestP1602Crash: the calls that have had no Done end, by rising numbers; those of other nodes go on; letters stay.
func TestP1602Crash(t *testing.T) {
	p := fresh(t, with(five(), func(c *api.Config) { c.Siblings = 8 }))
	p.does(putting(2, "k", "a", 3), putting(4, "k", "b", 3), getting(2, "k", 2), putting(2, "k", "c", 1), getting(2, "p", 3), getting(2, "k", 1), writing(0, "a", "v", 3), rereading(1, "k", 2), rereading(3, "g", 2), putting(2, "p", "d", 2))
	letters := p.bag.Len()
	// 4 was answered and waits on, 6 was answered at once, 2 is node 4's, 9 is node 3's
	p.want(crashing(2), ended(bad(1, api.ErrGone), bad(3, api.ErrGone), bad(5, api.ErrGone), bad(7, api.ErrGone), bad(8, api.ErrGone), bad(10, api.ErrGone)))
	if p.bag.Len() != letters {
		t.Errorf("%d letters; there were %d", p.bag.Len(), letters)
	}
	p.refuses(crashing(2), api.ErrDown)
	p.refuses(putting(2, "k", "v", 1), api.ErrDown)
	p.refuses(putting(2, "", "v", 9), api.ErrDown)
	p.refuses(getting(2, "k", 1), api.ErrDown)
	p.want(crashing(4), ended(bad(2, api.ErrGone)))
	p.does(restarting(2), restarting(4))
	p.want(crashing(2), api.Answer{}) // a call ends once
	p.does(restarting(2))
	for _, a := range p.empty() {
		if len(a.Done) > 1 || len(a.Done) == 1 && a.Done[0].Call != 9 {
			t.Errorf("a call ends twice: %s", showAnswer(a))
		}
	}
}

// TestP1602LateAnswers: what comes for a call of a node that was restarted is nobody's any more.
func TestP1602LateAnswers(t *testing.T) {
	p := fresh(t, three())
	p.does(putting(atP, "k", "v", 2), delivering(0))
	p.wantBag(msgStored(atQ, atP, 1, atQ))
	p.want(crashing(atP), ended(bad(1, api.ErrGone)))
	p.does(doubling(0))
	p.want(delivering(0), refused(api.ErrDown))
	p.does(restarting(atP))
	p.want(delivering(0), api.Answer{})
	p.want(putting(atP, "k", "w", 1), began(2, done(2, wr("k", "w", atP, 2))))
}

// TestP1602Down: the node's disk goes down in a step: all its calls end, nothing is sent, and the call that was about to begin is none.
func TestP1602Down(t *testing.T) {
	p := fresh(t, with(three(), func(c *api.Config) { c.Siblings = 8 }))
	p.does(putting(atP, "k", "a", 2), getting(atP, "k", 2), writing(0, "k", "b", 2), putting(atQ, "k", "c", 2), arming(atP, 3, 9))
	was := p.Do(bagging())
	p.want(putting(atP, "k", "d", 1), api.Answer{Err: api.ErrDown, Done: []api.Done{bad(1, api.ErrGone), bad(2, api.ErrGone), bad(3, api.ErrGone)}})
	p.want(bagging(), was)
	p.want(seeing(atP), api.Answer{})
	p.wantHeads(0, "k", atQ) // its call had an error
	p.does(restarting(atP))
	p.want(putting(atP, "k", "e", 1), began(5, done(5, wr("k", "e", atP, 3))))
}

// TestP1602StoredAllTheSame: the commit was whole, and then the power failed: the call is none, the write is there.
func TestP1602StoredAllTheSame(t *testing.T) {
	p := fresh(t, three())
	p.does(arming(atP, 8, 512))
	p.want(putting(atP, "k", "v", 1), refused(api.ErrDown))
	p.wantBag()
	p.does(restarting(atP))
	p.wantKeys(atP, []api.Write{v11})
	p.want(putting(atP, "k", "w", 1), began(1, done(1, wr("k", "w", atP, 2))))
}

// TestP1602DownInDelivery: of a message; its letter is gone, it is not answered.
func TestP1602DownInDelivery(t *testing.T) {
	p := fresh(t, three())
	p.does(putting(atP, "k", "v", 2), getting(atQ, "a", 2), arming(atQ, 0, 0))
	p.want(delivering(0), api.Answer{Err: api.ErrDown, Done: []api.Done{bad(2, api.ErrGone)}})
	p.wantBag(msgAsk(atQ, atP, 2, "a"))
	p.does(restarting(atQ))
	p.wantKeys(atQ)
	p.want(firing(atP, 0), ended(bad(1, api.ErrQuorum)))
}

// TestP1602DownInRead: a Get that was about to be answered is not: its node went down as it stored what was read.
func TestP1602DownInRead(t *testing.T) {
	p := fresh(t, three())
	w := wr("k", "w", atQ, 1)
	p.does(putting(atQ, "k", "w", 1), dropping(0), getting(atP, "k", 2), delivering(0), arming(atP, 8, 512))
	p.want(delivering(0), api.Answer{Err: api.ErrDown, Done: []api.Done{bad(2, api.ErrGone)}})
	p.does(restarting(atP))
	p.wantKeys(atP, []api.Write{w})
	p.refuses(behind(putting(atP, "k", "x", 1), 2), api.ErrToken)
}

func TestP1602Restart(t *testing.T) {
	p := fresh(t, three())
	for node := range 3 {
		p.refuses(restarting(node), api.ErrStep)
	}
	p.does(putting(atP, "k", "v", 1), arming(atP, 0, 0), crashing(atP), restarting(atP)) // what was armed went with the power
	p.want(putting(atP, "k", "w", 1), began(2, done(2, wr("k", "w", atP, 2))))
	p.wantKeys(atP, []api.Write{v11, wr("k", "w", atP, 2)})
	p.refuses(restarting(atP), api.ErrStep)
}

// TestP1602Arm: of a node that is up at once; of one that is down at its next restart, the last one alone, and once.
func TestP1602Arm(t *testing.T) {
	p := fresh(t, three())
	p.want(arming(atP, 0, 0), api.Answer{})
	p.want(arming(atP, -1, 0), api.Answer{})
	p.does(putting(atP, "k", "v", 1))
	p.does(arming(atP, 9, 0), dying(behind(putting(atP, "k", "", 1), 0))) // just nine raw writes
	p.want(getting(atP, "k", 1), began(3, got(3, spans(sp(atP, 2)), v11, api.Write{Dot: dot(atP, 2), Key: "k", Dead: true})))
	p.want(behind(putting(atP, "k", "w", 1), 3), refused(api.ErrDown))

	p.want(arming(atP, 0, 0), api.Answer{})
	p.want(arming(atP, 4, 504), api.Answer{})
	p.want(restarting(atP), refused(api.ErrDown))
	p.want(seeing(atP), api.Answer{})
	p.refuses(putting(atP, "k", "v", 1), api.ErrDown)
	if p.places[atP].disk.IsOn() {
		t.Errorf("the node is down, its disk is on")
	}
	p.want(restarting(atP), api.Answer{})
	if gen := p.Do(seeing(atP)).Sight.State.Gen; gen != 2 {
		t.Errorf("Gen %d: a restart that was torn counts, or a forgotten arm is remembered", gen)
	}
	p.does(crashing(atP), arming(atP, 0, 0), arming(atP, -1, 9), restarting(atP), putting(atP, "a", "v", 1), crashing(atP), arming(atP, 5, 0), restarting(atP))
	p.want(putting(atP, "a", "v", 1), refused(api.ErrDown)) // Open has five raw writes, the power fails in the sixth
	p.does(restarting(atP), putting(atP, "a", "v", 1))
}

// TestP1602ArmApart: a node's disk is its own, what is remembered for it too.
func TestP1602ArmApart(t *testing.T) {
	p := fresh(t, three())
	p.does(arming(atP, 0, 0), crashing(atQ), arming(atQ, 0, 0), crashing(atS), restarting(atS), crashing(atS), restarting(atS))
	p.want(putting(atP, "k", "v", 1), refused(api.ErrDown))
	p.does(restarting(atP))
	p.want(restarting(atQ), refused(api.ErrDown))
}

// TestP1602NoOpen: a node that can't be opened is down, its disk off; what it can't be opened for is told.
func TestP1602NoOpen(t *testing.T) {
	for _, x := range []struct {
		spoil func(p *play)
		want  api.Errno
	}{
		{func(p *play) {
			b := make([]byte, 512)
			b[0] = 1
			_ = p.places[atP].disk.Write(0, b)
			_ = p.places[atP].disk.Write(1, b)
		}, api.ErrRoot},
		{func(p *play) {
			for sector := 8; sector < 808; sector++ {
				_ = p.places[atP].disk.Write(sector, make([]byte, 512))
			}
		}, api.ErrPage},
	} {
		p := fresh(t, three())
		p.does(putting(atP, "k", "v", 1))
		x.spoil(p)
		p.does(crashing(atP))
		for range 2 {
			p.want(restarting(atP), refused(x.want))
			p.want(seeing(atP), api.Answer{})
			p.refuses(putting(atP, "k", "v", 1), api.ErrDown)
			if p.places[atP].disk.IsOn() {
				t.Errorf("the node is down, its disk is on")
			}
			p.does(arming(atP, 3, 3))
		}
		p.want(delivering(0), api.Answer{}) // the others go on
	}
}
