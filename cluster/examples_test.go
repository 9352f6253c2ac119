package cluster

import (
	"testing"

	"rookery/api"
)

// The chapter's ten examples.

var v11 = wr("k", "v", atP, 1)

func TestExample1(t *testing.T) {
	p := fresh(t, three())
	p.want(putting(atP, "k", "v", 1), began(1, done(1, v11)))
	p.wantBag(msgStore(atP, atQ, 1, v11))
}

func TestExample2And3(t *testing.T) {
	p := fresh(t, three())
	p.want(putting(atP, "k", "v", 2), began(1))
	p.want(delivering(0), api.Answer{})
	p.wantBag(msgStored(atQ, atP, 1, atQ))
	p.want(delivering(0), ended(done(1, v11)))
	p.want(getting(atQ, "k", 1), began(2, got(2, spans(sp(atP, 1)), v11)))
}

func TestExample4(t *testing.T) {
	p := fresh(t, three())
	p.refuses(putting(atS, "k", "v", 1), api.ErrMine)
}

func TestExample5(t *testing.T) {
	p := fresh(t, three())
	a, b := wr("k", "a", atP, 1), wr("k", "b", atP, 2)
	p.want(putting(atP, "k", "a", 1), began(1, done(1, a)))
	p.want(putting(atP, "k", "b", 1), began(2, done(2, b)))
	p.want(getting(atP, "k", 1), began(3, got(3, spans(sp(atP, 2)), a, b)))
	p.refuses(putting(atP, "k", "c", 1), api.ErrSiblings)
	c := wr("k", "c", atP, 3, sp(atP, 2))
	p.want(behind(putting(atP, "k", "c", 1), 3), began(4, done(4, c)))
	p.want(getting(atP, "k", 1), began(5, got(5, spans(sp(atP, 3)), c)))
}

func TestExample6(t *testing.T) {
	p := fresh(t, three())
	p.does(putting(atP, "k", "v", 1), dropping(0))
	p.want(firing(atQ, 0), api.Answer{})
	p.wantBag(msgClock(atQ, atP, 0))
	p.want(delivering(0), api.Answer{})
	p.wantBag(msgShip(atP, atQ, 0, spans(sp(atP, 1)), v11))
	p.want(delivering(0), api.Answer{})
	p.wantKeys(atQ, []api.Write{v11})
	if c := p.Do(seeing(atQ)).Sight.State.Clocks; len(c) != 1 || len(c[0].Set) != 1 || c[0].Set[0] != sp(atP, 1) {
		t.Errorf("the clock of q: %v", c)
	}
}

func TestExample7(t *testing.T) {
	p := fresh(t, three())
	p.want(sloppily(putting(atP, "k", "v", 2)), began(1))
	p.does(dropping(0))
	p.want(firing(atP, 0), api.Answer{})
	p.wantBag(msgKeep(atP, atS, 1, atQ, v11))
	p.want(delivering(0), api.Answer{})
	p.wantHints(atS, api.Hint{Owner: atQ, Write: v11})
	p.wantKeys(atS)
	p.wantBag(msgStored(atS, atP, 1, atQ))
	p.want(delivering(0), ended(done(1, v11)))
	p.want(firing(atS, p.timerOf(atS, api.TimeHand)), api.Answer{})
	p.wantBag(msgBack(atS, atQ, v11))
	p.want(delivering(0), api.Answer{})
	p.wantBag(msgTook(atQ, atS, "k", v11.Dot))
	p.wantHints(atS, api.Hint{Owner: atQ, Write: v11})
	p.want(delivering(0), api.Answer{})
	p.wantHints(atS)
	p.wantKeys(atQ, []api.Write{v11})
	p.wantBag()
}

func TestExample8(t *testing.T) {
	p := fresh(t, three())
	p.want(arming(atP, 0, 7), api.Answer{})
	p.want(putting(atP, "k", "v", 1), refused(api.ErrDown))
	p.want(seeing(atP), api.Answer{})
	p.want(restarting(atP), api.Answer{})
	x := p.Do(seeing(atP)).Sight
	if !x.Up || x.State.Gen != 2 || len(x.State.Keys) > 0 {
		t.Errorf("p: %s", showSight(x))
	}
}

func TestExample9(t *testing.T) {
	p := fresh(t, three())
	for range 5 {
		g := p.get(atP, "k")
		p.does(behind(putting(atP, "k", "v", 1), g.Call))
	}
	fifth := wr("k", "v", atP, 5, sp(atP, 4))
	p.wantKeys(atP, []api.Write{fifth})
	for p.bag.Len() > 1 {
		p.does(dropping(0))
	}
	p.wantBag(msgStore(atP, atQ, 10, fifth))
	p.want(delivering(0), refused(api.ErrGap))
	p.wantKeys(atQ)
	p.wantBag()
	p.does(firing(atQ, 0), delivering(0), delivering(0))
	p.wantKeys(atQ, []api.Write{fifth})
}

func TestExample10(t *testing.T) {
	p := fresh(t, three())
	w := wr("k", "v", atP, 1)
	p.want(writing(0, "k", "v", 2), api.Answer{Call: 1, Node: atP})
	p.want(delivering(0), api.Answer{})
	p.want(delivering(0), ended(done(1, w)))
	p.want(rereading(0, "k", 1), api.Answer{Call: 2, Node: atP, Done: []api.Done{got(2, spans(sp(atP, 1)), w)}})

	p = fresh(t, three())
	p.want(writing(0, "k", "v", 1), api.Answer{Call: 1, Node: atP, Done: []api.Done{done(1, w)}})
	p.does(crashing(atP))
	p.want(rereading(0, "k", 1), api.Answer{Err: api.ErrDown, Node: atP})
	p.want(rereading(0, "k", 1), api.Answer{Call: 2, Node: atQ, Done: []api.Done{bad(2, api.ErrStale)}})
}
