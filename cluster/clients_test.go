package cluster

import (
	"strings"
	"testing"

	"rookery/api"
)

// TestP1602Client: what a session has seen, and whom it calls next.
func TestP1602Client(t *testing.T) {
	p := fresh(t, three())
	p.wantHeads(0, "k", atP)
	p.wantHeads(2, "k", atQ)
	p.refuses(asking(0, ""), api.ErrKey)
	p.refuses(asking(0, strings.Repeat("k", 17)), api.ErrKey)
	p.does(writing(0, "k", "v", 1), writing(0, "k", "w", 1))
	p.wantHeads(0, "k", atP, dot(atP, 1), dot(atP, 2))
	p.wantHeads(0, "a", atP)
	p.wantHeads(1, "k", atP)
	p.does(rereading(0, "k", 1), writing(0, "k", "x", 1))
	p.wantHeads(0, "k", atP, dot(atP, 3))
}

// TestP1602Session: a session's Put carries the token of what it has read last of the key.
func TestP1602Session(t *testing.T) {
	p := fresh(t, five())
	at := func(call int, d api.Done) api.Answer { return api.Answer{Call: call, Node: 2, Done: []api.Done{d}} }
	a, b := wr("k", "a", 2, 1), wr("k", "b", 2, 2)
	p.want(writing(0, "k", "a", 1), at(1, done(1, a)))
	p.want(writing(0, "k", "b", 1), at(2, done(2, b)))
	p.want(rereading(0, "k", 1), at(3, got(3, spans(sp(2, 2)), a, b)))
	p.want(writing(1, "k", "c", 1), at(4, done(4, wr("k", "c", 2, 3)))) // another session has read nothing
	d := wr("k", "d", 2, 4, sp(2, 2))
	p.want(writing(0, "k", "d", 1), at(5, done(5, d)))
	dead := api.Write{Dot: dot(2, 5), Key: "k", Dead: true, Ctx: spans(sp(2, 2))}
	p.want(dying(writing(0, "k", "", 1)), at(6, done(6, dead)))
	p.wantHeads(0, "k", 2, dot(2, 4), dot(2, 5))
	p.want(behind(putting(4, "k", "x", 1), 3), began(7, done(7, wr("k", "x", 4, 1, sp(2, 2))))) // what a StepRead has read, a StepPut may carry
	p.want(writing(0, "a", "y", 1), at(8, done(8, wr("a", "y", 2, 6))))                         // of another key it has read nothing
}

// TestP1602SessionRefused: with an error of Next there is no node; else it is told, and nothing is done.
func TestP1602SessionRefused(t *testing.T) {
	p := fresh(t, three())
	for _, key := range []string{"", strings.Repeat("k", 17)} {
		p.refuses(writing(0, key, "v", 1), api.ErrKey)
		p.refuses(rereading(0, key, 1), api.ErrKey)
	}
	was := p.looks("k")
	p.want(writing(2, "k", strings.Repeat("v", 65), 1), api.Answer{Err: api.ErrLong, Node: atQ})
	p.want(writing(2, "k", "v", 3), api.Answer{Err: api.ErrArg, Node: atQ})
	p.want(rereading(2, "k", 3), api.Answer{Err: api.ErrArg, Node: atQ})
	p.want(api.Step{Kind: api.StepWrite, Client: 2, Key: "k", Dead: true, Value: []byte("v"), Quorum: 1}, api.Answer{Err: api.ErrArg, Node: atQ})
	if now := p.looks("k"); now != was {
		t.Errorf("refused steps change %s; it was %s", now, was)
	}
	p.does(writing(0, "k", "v", 1), writing(0, "k", "w", 1))
	p.want(writing(0, "k", "x", 1), api.Answer{Err: api.ErrSiblings, Node: atP})
	p.wantHeads(0, "k", atP, dot(atP, 1), dot(atP, 2)) // Failed was not called
}

// TestP1602SessionDown: a node that is down is called last from now on.
func TestP1602SessionDown(t *testing.T) {
	p := fresh(t, three())
	p.does(crashing(atP))
	p.want(writing(0, "k", "v", 1), api.Answer{Err: api.ErrDown, Node: atP})
	p.wantHeads(0, "k", atQ)
	p.wantHeads(1, "k", atP) // another session does not know of it
	p.want(rereading(1, "k", 1), api.Answer{Err: api.ErrDown, Node: atP})
	p.want(writing(0, "k", "v", 1), api.Answer{Call: 1, Node: atQ, Done: []api.Done{done(1, wr("k", "v", atQ, 1))}})
	p.does(crashing(atQ))
	p.want(writing(0, "k", "v", 1), api.Answer{Err: api.ErrDown, Node: atQ})
	p.want(writing(0, "k", "v", 1), api.Answer{Err: api.ErrDown, Node: atP})
	p.wantHeads(0, "k", atQ, dot(atQ, 1))
}

// TestP1602SessionGoesDown: the call was about to begin, and is none: nobody has failed; but a call of the session that was open has.
func TestP1602SessionGoesDown(t *testing.T) {
	p := fresh(t, three())
	p.does(arming(atP, 0, 0))
	p.want(writing(0, "k", "v", 1), api.Answer{Err: api.ErrDown, Node: atP})
	p.wantHeads(0, "k", atP)
	p.does(restarting(atP))
	p.want(writing(0, "k", "v", 2), api.Answer{Call: 1, Node: atP})
	p.does(arming(atP, 0, 0))
	p.want(writing(0, "k", "w", 1), api.Answer{Err: api.ErrDown, Node: atP, Done: []api.Done{bad(1, api.ErrGone)}})
	p.wantHeads(0, "k", atQ)
}

// TestP1602SessionFails: a call that ends with an error puts its node last; one that ends with OK does not.
func TestP1602SessionFails(t *testing.T) {
	for _, s := range []api.Step{writing(0, "k", "v", 2), rereading(0, "k", 2)} {
		p := fresh(t, three())
		p.want(s, api.Answer{Call: 1, Node: atP})
		p.wantHeads(0, "k", atP)
		p.want(firing(atP, 0), ended(bad(1, api.ErrQuorum)))
		p.wantHeads(0, "k", atQ)

		p = fresh(t, three())
		p.does(s)
		p.want(crashing(atP), ended(bad(1, api.ErrGone)))
		p.wantHeads(0, "k", atQ)
		p.wantHeads(1, "k", atP)

		p = fresh(t, three())
		p.does(s, delivering(0))
		if a := p.Do(delivering(0)); len(a.Done) != 1 || a.Done[0].Err != api.OK {
			t.Errorf("%+v ends with %s", s, showAnswer(a))
		}
		if at := p.Do(asking(0, "k")).Node; at != atP {
			t.Errorf("%+v ended with OK; then %d is called", s, at)
		}
	}
}

// TestP1602PlainCalls: calls of no session are told to none.
func TestP1602PlainCalls(t *testing.T) {
	p := fresh(t, three())
	p.does(putting(atP, "k", "v", 1), getting(atP, "k", 1), putting(atP, "k", "w", 2), firing(atP, 0), getting(atP, "k", 2), crashing(atP))
	for i := range api.MaxClients {
		p.wantHeads(i, "k", []int{atP, atP, atQ}[i%3])
	}
}

// TestP1602Stale: an answer that goes back is told as ErrStale alone, in whichever step it comes; it is no failure of its node, and no token.
func TestP1602Stale(t *testing.T) {
	p := fresh(t, three())
	p.does(writing(0, "k", "v", 1), dropping(0), putting(atQ, "k", "u", 1), dropping(0), crashing(atP)) // q has a write to tell
	p.want(rereading(0, "k", 1), api.Answer{Err: api.ErrDown, Node: atP})
	p.want(rereading(0, "k", 1), api.Answer{Call: 3, Node: atQ, Done: []api.Done{bad(3, api.ErrStale)}})
	p.wantHeads(0, "k", atQ, dot(atP, 1)) // what was seen stays, and q is liked as it was
	p.refuses(behind(putting(atQ, "k", "w", 1), 3), api.ErrToken)
	u := wr("k", "u", atQ, 1)
	p.want(rereading(1, "k", 1), api.Answer{Err: api.ErrDown, Node: atP})
	p.want(rereading(1, "k", 1), api.Answer{Call: 4, Node: atQ, Done: []api.Done{got(4, spans(sp(atQ, 1)), u)}}) // who has seen nothing takes it
	p.want(getting(atQ, "k", 1), began(5, got(5, spans(sp(atQ, 1)), u)))
	w := wr("k", "w", atQ, 2)
	p.want(writing(0, "k", "w", 1), api.Answer{Call: 6, Node: atQ, Done: []api.Done{done(6, w)}}) // without a token
	p.wantHeads(0, "k", atQ, dot(atP, 1), dot(atQ, 2))
}

// TestP1602StaleLater: the session has seen more by the time its Get ends.
func TestP1602StaleLater(t *testing.T) {
	c := five() // of g the nodes are 1 3 2
	p := fresh(t, c)
	p.does(rereading(1, "g", 2)) // 1, at node 1: to 3 and 2
	p.does(writing(1, "g", "v", 1))
	p.does(delivering(0))
	p.want(delivering(p.bag.Len()-1), ended(bad(1, api.ErrStale))) // it had told its own ahead of the write
	p.refuses(behind(putting(1, "g", "w", 1), 1), api.ErrToken)
	p.wantHeads(1, "g", 1, dot(1, 1))
}

// TestP1602StaleKeeps: the token of the last answer that was accepted stays the session's.
func TestP1602StaleKeeps(t *testing.T) {
	p := fresh(t, three())
	p.does(writing(0, "k", "v", 1), rereading(0, "k", 1), crashing(atP))
	p.want(rereading(0, "k", 1), api.Answer{Err: api.ErrDown, Node: atP})
	p.want(rereading(0, "k", 1), api.Answer{Call: 3, Node: atQ, Done: []api.Done{bad(3, api.ErrStale)}})
	w := wr("k", "w", atQ, 1, sp(atP, 1))
	p.want(writing(0, "k", "w", 1), api.Answer{Call: 4, Node: atQ, Done: []api.Done{done(4, w)}})
	p.wantHeads(0, "k", atQ, dot(atQ, 1))
}

// TestP1602LateWrite: a session's Put that ends in a later step is taken in then.
func TestP1602LateWrite(t *testing.T) {
	p := fresh(t, three())
	p.want(writing(0, "k", "v", 2), api.Answer{Call: 1, Node: atP})
	p.wantHeads(0, "k", atP)
	p.want(delivering(0), api.Answer{})
	p.wantHeads(0, "k", atP)
	p.want(delivering(0), ended(done(1, v11)))
	p.wantHeads(0, "k", atP, dot(atP, 1))
}
