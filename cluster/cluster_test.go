package cluster

import (
	"bytes"
	"math"
	"slices"
	"testing"

	"rookery/api"
	"rookery/disk"
	"rookery/node"
	"rookery/ring"
)

// turns: configs of which one number is out of its bounds, and such at them.
func turns() (wrong, right []api.Config) {
	number := func(i int, c *api.Config) *int {
		return []*int{&c.Nodes, &c.Prefer, &c.Ranges, &c.Siblings, &c.Gap, &c.Count, &c.Keys, &c.Hints, &c.Bag}[i]
	}
	least := []int{2, 1, 1, 1, 1, 1, 1, 0, 1} // Prefer is 2: no fewer nodes
	most := []int{8, 3, 16, 8, 64, 1 << 20, 64, 32, 256}
	for i := range least {
		for _, n := range []int{least[i] - 1, most[i] + 1, math.MinInt, math.MaxInt} {
			wrong = append(wrong, with(three(), func(c *api.Config) { *number(i, c) = n }))
		}
		for _, n := range []int{least[i], most[i]} {
			right = append(right, with(three(), func(c *api.Config) { *number(i, c) = n }))
		}
	}
	wrong = append(wrong, api.Config{}, with(three(), func(c *api.Config) { c.Nodes, c.Prefer = 8, 6 }))
	right = append(right, with(three(), func(c *api.Config) { c.Nodes, c.Prefer = 8, 5 }), with(three(), func(c *api.Config) { c.Nodes, c.Prefer = 1, 1 }))
	return wrong, right
}

func TestP1601Refused(t *testing.T) {
	wrong, right := turns()
	for _, c := range wrong {
		if all, err := New(c); all != nil || err != api.ErrArg {
			t.Errorf("New(%+v): %v, %d; want nil, ErrArg", c, all != nil, err)
		}
	}
	for _, c := range right {
		fresh(t, c)
	}
}

// TestP1601Nodes: each is opened on a disk of its own, which had been all zeros.
func TestP1601Nodes(t *testing.T) {
	_, right := turns()
	for _, c := range append(right, five()) {
		p := fresh(t, c)
		for me := range c.Nodes {
			d, _ := disk.New(808)
			n, err := node.Open(c, me, d)
			if err != api.OK {
				t.Fatalf("node %d: %d", me, err)
			}
			p.want(seeing(me), api.Answer{Sight: n.See()})
			if got := p.Do(imaging(me)); got.Err != api.OK || !bytes.Equal(got.Image, d.Image()) || len(got.Image) != 808*512 {
				t.Errorf("node %d has an image of %d bytes, which is not that of a node that was opened", me, len(got.Image))
			}
		}
		p.want(bagging(), api.Answer{})
		p.refuses(seeing(c.Nodes), api.ErrNode)
	}
}

// TestP1601Bag: it has room for Bag letters.
func TestP1601Bag(t *testing.T) {
	for _, room := range []int{1, 2, 50, 256} {
		p := fresh(t, with(three(), func(c *api.Config) { c.Bag = room }))
		p.does(putting(atP, "k", "v", 1))
		for range room - 1 {
			p.does(doubling(0))
		}
		p.refuses(doubling(0), api.ErrLost)
		if n := len(p.Do(bagging()).Bag); n != room {
			t.Errorf("%d letters; want %d", n, room)
		}
	}
}

// TestP1601Clients: eight, the i-th with the first node i mod Nodes.
func TestP1601Clients(t *testing.T) {
	for nodes := 1; nodes <= 8; nodes++ {
		p := fresh(t, with(three(), func(c *api.Config) { c.Nodes, c.Prefer = nodes, 1 }))
		q := fresh(t, with(three(), func(c *api.Config) { c.Nodes, c.Prefer = nodes, min(nodes, 5) }))
		circle, _ := ring.New(nodes, 1)
		order, _ := circle.Order(0)
		for i := range 8 {
			p.wantHeads(i, "k", order[0])
			want := i % nodes
			for !slices.Contains(order[:min(nodes, 5)], want) {
				want = (want + 1) % nodes
			}
			q.wantHeads(i, "k", want)
		}
		p.refuses(asking(8, "k"), api.ErrClient)
	}
}

// TestP1601Apart: two clusters have nothing in common.
func TestP1601Apart(t *testing.T) {
	p, q := fresh(t, three()), fresh(t, three())
	was := q.looks("k")
	p.does(putting(atP, "k", "v", 1), writing(0, "k", "w", 1), delivering(0), crashing(atQ), arming(atS, 0, 0))
	if now := q.looks("k"); now != was {
		t.Errorf("the other cluster: %s; it was %s", now, was)
	}
	q.want(putting(atP, "k", "v", 1), began(1, done(1, v11)))
}

func TestP1602Kinds(t *testing.T) {
	p := fresh(t, three())
	for _, kind := range []int{0, 17, -1, math.MaxInt, math.MinInt} {
		p.refuses(api.Step{Kind: kind, Node: 9, Client: 9}, api.ErrStep)
		p.refuses(api.Step{Kind: kind, Node: atP, Key: "k", Quorum: 1}, api.ErrStep)
	}
}

// TestP1602NoNode: ahead of all else, of the steps that name one; the others don't look at it.
func TestP1602NoNode(t *testing.T) {
	p := fresh(t, three())
	for _, at := range []int{-1, 3, math.MaxInt, math.MinInt} {
		for _, kind := range []int{api.StepPut, api.StepGet, api.StepFire, api.StepCrash, api.StepArm, api.StepRestart, api.StepSee, api.StepImage} {
			p.refuses(api.Step{Kind: kind, Node: at, Client: 77, I: -1, From: 5}, api.ErrNode)
		}
		for _, kind := range []int{api.StepDeliver, api.StepDrop, api.StepDouble, api.StepMove} {
			p.refuses(api.Step{Kind: kind, Node: at, Client: at, I: 0}, api.ErrIndex)
		}
		p.want(api.Step{Kind: api.StepBag, Node: at, Client: at, I: at}, api.Answer{})
		p.want(api.Step{Kind: api.StepClient, Node: at, Key: "k"}, api.Answer{Node: atP})
	}
}

func TestP1602NoClient(t *testing.T) {
	p := fresh(t, three())
	for _, client := range []int{-1, 8, math.MaxInt, math.MinInt} {
		for _, kind := range []int{api.StepWrite, api.StepRead, api.StepClient} {
			p.refuses(api.Step{Kind: kind, Client: client, Node: 77, Key: "k", Quorum: 1}, api.ErrClient)
			p.refuses(api.Step{Kind: kind, Client: client}, api.ErrClient)
		}
		p.want(api.Step{Kind: api.StepSee, Node: atS, Client: client}, api.Answer{Sight: p.Do(seeing(atS)).Sight})
	}
}

// TestP1602Unnamed: what a step does not name is not looked at.
func TestP1602Unnamed(t *testing.T) {
	all := api.Step{Node: atP, Key: "k", Dead: true, Value: make([]byte, 99), Quorum: 1, Sloppy: true, From: 77, I: 0, J: 99, Client: 99}
	of := func(kind int, turn func(s *api.Step)) api.Step {
		s := all
		s.Kind = kind
		turn(&s)
		return s
	}
	none := func(*api.Step) {}
	p := fresh(t, three())
	p.want(of(api.StepGet, none), began(1, got(1, nil)))
	p.wantBag(msgAsk(atP, atQ, 1, "k"))
	p.want(of(api.StepDouble, none), api.Answer{})
	p.want(of(api.StepDeliver, none), api.Answer{})
	p.want(of(api.StepDrop, none), api.Answer{})
	p.want(of(api.StepMove, func(s *api.Step) { s.J = 0 }), api.Answer{})
	p.wantBag(msgTell(atQ, atP, 1, "k", nil))
	p.want(of(api.StepFire, none), api.Answer{})
	p.want(of(api.StepRead, func(s *api.Step) { s.Client, s.Node = 0, 99 }), api.Answer{Call: 2, Node: atP, Done: []api.Done{got(2, nil)}})
	w := wr("k", "v", atP, 1)
	p.want(of(api.StepWrite, func(s *api.Step) { s.Client, s.Node, s.Dead, s.Value = 0, 99, false, []byte("v") }), api.Answer{Call: 3, Node: atP, Done: []api.Done{done(3, w)}})
	p.want(of(api.StepCrash, none), api.Answer{})
	p.want(of(api.StepSee, none), api.Answer{})
	p.want(of(api.StepRestart, none), api.Answer{})
}

// TestP1602StrictSession: the script does not make a session's call sloppy.
func TestP1602StrictSession(t *testing.T) {
	p := fresh(t, three())
	p.want(sloppily(writing(0, "k", "v", 2)), api.Answer{Call: 1, Node: atP})
	p.want(firing(atP, 0), ended(bad(1, api.ErrQuorum)))
	p = fresh(t, three())
	p.want(sloppily(rereading(0, "k", 2)), api.Answer{Call: 1, Node: atP})
	p.want(firing(atP, 0), ended(bad(1, api.ErrQuorum)))
}

func TestP1602Bag(t *testing.T) {
	p := fresh(t, five())
	p.does(putting(2, "k", "v", 1))
	w := wr("k", "v", 2, 1)
	a, b := msgStore(2, 4, 1, w), msgStore(2, 3, 1, w)
	p.wantBag(a, b)
	for _, i := range []int{-1, 2, math.MaxInt, math.MinInt} {
		for _, s := range []api.Step{delivering(i), dropping(i), doubling(i), moving(i, 0), moving(0, i)} {
			p.refuses(s, api.ErrIndex)
		}
	}
	p.want(moving(0, 1), api.Answer{})
	p.wantBag(b, a)
	p.want(doubling(0), api.Answer{})
	p.wantBag(b, a, b)
	p.want(moving(2, 0), api.Answer{})
	p.wantBag(b, b, a)
	p.want(moving(0, 2), api.Answer{})
	p.wantBag(b, a, b)
	p.want(moving(1, 0), api.Answer{})
	p.wantBag(a, b, b)
	p.want(moving(0, 2), api.Answer{})
	p.wantBag(b, b, a)
	p.want(dropping(2), api.Answer{})
	p.wantBag(b, b)
	p.want(delivering(1), api.Answer{})
	p.wantBag(b, msgStored(3, 2, 1, 3))
	if counts := p.bag.Counts(); counts != [5]int{3, 0, 1, 1, 1} {
		t.Errorf("sent, lost, delivered, dropped, doubled: %v", counts)
	}
}

// TestP1602FullBag: it loses what is sent into it, the first messages have come first; the call goes on.
func TestP1602FullBag(t *testing.T) {
	p := fresh(t, with(five(), func(c *api.Config) { c.Bag = 3 }))
	w := wr("k", "v", 2, 1)
	p.want(putting(2, "k", "v", 3), began(1))
	p.want(getting(2, "k", 1), began(2, got(2, spans(sp(2, 1)), w)))
	p.wantBag(msgStore(2, 4, 1, w), msgStore(2, 3, 1, w), msgAsk(2, 4, 2, "k"))
	p.does(dropping(2), delivering(0), delivering(0), delivering(0))
	p.want(delivering(0), ended(done(1, w)))
}

func TestP1602Fire(t *testing.T) {
	p := fresh(t, three())
	for _, i := range []int{-1, 2, math.MaxInt, math.MinInt} {
		p.refuses(firing(atP, i), api.ErrTimer)
	}
	p.want(firing(atP, 0), api.Answer{})
	p.wantBag(msgClock(atP, atQ, 0))
	p.want(firing(atS, 0), api.Answer{})
	p.wantBag(msgClock(atP, atQ, 0))
	p.does(crashing(atP))
	p.refuses(firing(atP, 0), api.ErrDown)
	p.refuses(firing(atP, -1), api.ErrDown)
}

// TestP1602Deliver: a letter is gone, whatever its node says.
func TestP1602Deliver(t *testing.T) {
	p := fresh(t, three())
	p.does(putting(atP, "k", "v", 2), doubling(0), crashing(atQ))
	p.want(delivering(0), refused(api.ErrDown))
	p.wantBag(msgStore(atP, atQ, 1, v11))
	p.does(restarting(atQ), delivering(0))
	p.want(delivering(0), ended(done(1, v11)))

	// Letters that no node has sent: to nobody, of other bytes, to another one than they say.
	stored := p.Do(seeing(atQ)).Sight
	for _, l := range []struct {
		api.Letter
		want api.Errno
	}{
		{api.Letter{From: atP, To: 3, Data: []byte{1}}, api.ErrNode}, {api.Letter{From: atP, To: -1}, api.ErrNode}, {api.Letter{From: atP, To: math.MaxInt}, api.ErrNode}, {api.Letter{From: atP, To: atQ, Data: []byte{1, 2, 3}}, api.ErrWire},
		{api.Letter{From: atP, To: atQ}, api.ErrWire}, {api.Letter{From: atP, To: atQ, Data: []byte{2, 1, 0, 7, 1}}, api.ErrMsg}, {api.Letter{From: 9, To: atQ, Data: []byte{2, 1, 2, 7, 1}}, api.OK},
	} {
		if err := p.bag.Send(l.Letter); err != api.OK {
			t.Fatalf("Send: %d", err)
		}
		p.want(delivering(0), refused(l.want))
		p.wantBag()
	}
	p.want(seeing(atQ), api.Answer{Sight: stored})
}

func TestP1602See(t *testing.T) {
	p := fresh(t, three())
	p.does(putting(atP, "k", "v", 2))
	p.want(seeing(atP), api.Answer{Sight: api.Sight{
		Up: true, State: api.State{Gen: 1, Keys: [][]api.Write{{v11}}, Clocks: []api.Clock{{Range: 0, Set: spans(sp(atP, 1))}}},
		Timers: []api.Timer{{Due: 20, Number: 3, Kind: api.TimeCall, Call: 1}, {Due: 30, Number: 1, Kind: api.TimeSync}, {Due: 50, Number: 2, Kind: api.TimeHand}}, Calls: []int{1},
	}})
	p.does(crashing(atP))
	p.want(seeing(atP), api.Answer{})
	p.does(restarting(atP))
	p.want(seeing(atP), api.Answer{Sight: api.Sight{
		Up: true, State: api.State{Gen: 2, Keys: [][]api.Write{{v11}}, Clocks: []api.Clock{{Range: 0, Set: spans(sp(atP, 1))}}},
		Timers: []api.Timer{{Due: 30, Number: 1, Kind: api.TimeSync}, {Due: 50, Number: 2, Kind: api.TimeHand}},
	}})
}

// TestP1602Image: the bytes as they are, also while the node is down, a torn sector among them.
func TestP1602Image(t *testing.T) {
	p := fresh(t, three())
	a := p.Do(imaging(atP)).Image
	p.does(arming(atP, 2, 100))
	p.Do(putting(atP, "k", "v", 1))
	b := p.Do(imaging(atP)).Image
	if p.Do(seeing(atP)).Sight.Up || bytes.Equal(a, b) || !bytes.Equal(b, p.places[atP].disk.Image()) {
		t.Errorf("the image of a node that went down in a write is not that of its disk")
	}
	if c := p.Do(imaging(atP)).Image; !bytes.Equal(b, c) {
		t.Errorf("an image changes what the next one tells")
	}
	p.does(restarting(atP))
	if c := p.Do(imaging(atP)).Image; bytes.Equal(b, c) {
		t.Errorf("a restart changes no byte")
	}
}

func TestP1603Run(t *testing.T) {
	steps := []api.Step{
		putting(atP, "k", "v", 1), getting(atP, "k", 1), behind(putting(atP, "k", "w", 2), 2), delivering(0), {Kind: 99}, crashing(atP), seeing(atP), restarting(atP), seeing(atP), bagging(), imaging(atS), writing(3, "k", "x", 1), asking(3, "k"),
	}
	l, err := Run(three(), steps)
	if err != api.OK || len(l) != len(steps) {
		t.Fatalf("Run: %d answers, %d", len(l), err)
	}
	p := fresh(t, three())
	for i, s := range steps {
		p.want(s, l[i])
		if got := p.places[atS].disk.Image(); s.Kind == api.StepImage && !bytes.Equal(l[i].Image, got) {
			t.Errorf("the image is not that of the disk")
		}
	}
	if l[4].Err != api.ErrStep || l[2].Call != 3 || len(l[5].Done) != 1 {
		t.Errorf("%s; %s; %s", showAnswer(l[4]), showAnswer(l[2]), showAnswer(l[5]))
	}
}

func TestP1603Refused(t *testing.T) {
	wrong, _ := turns()
	for _, c := range wrong {
		for _, n := range []int{0, 1, api.MaxSteps + 1} {
			if l, err := Run(c, make([]api.Step, n)); len(l) > 0 || err != api.ErrArg {
				t.Errorf("Run of %+v and %d steps: %d answers, %d; want ErrArg", c, n, len(l), err)
			}
		}
	}
	for _, n := range []int{api.MaxSteps + 1, api.MaxSteps + 2, 3 * api.MaxSteps} {
		if l, err := Run(three(), make([]api.Step, n)); len(l) > 0 || err != api.ErrLong {
			t.Errorf("Run of %d steps: %d answers, %d; want ErrLong", n, len(l), err)
		}
	}
	for _, n := range []int{0, 1, api.MaxSteps} {
		if l, err := Run(three(), make([]api.Step, n)); len(l) != n || err != api.OK {
			t.Errorf("Run of %d steps: %d answers, %d", n, len(l), err)
		}
	}
}

// TestP1603Apart: a script begins at the beginning, whatever was played ahead of it.
func TestP1603Apart(t *testing.T) {
	steps := []api.Step{putting(atP, "k", "v", 1), writing(0, "k", "w", 1), crashing(atP), arming(atP, 0, 0)}
	a, _ := Run(three(), steps)
	b, _ := Run(three(), steps)
	for i := range steps {
		if showAnswer(a[i]) != showAnswer(b[i]) {
			t.Errorf("%+v: %s; the second time %s", steps[i], showAnswer(a[i]), showAnswer(b[i]))
		}
	}
}
