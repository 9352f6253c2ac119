package node

import (
	"fmt"
	"math/rand"
	"testing"

	"rookery/api"
)

// kinds: a right message of each kind from 4 to 2, of five.
func kinds() []api.Msg {
	return []api.Msg{
		msgStore(4, 2, 7, wr("k", 4, 1)), msgStored(4, 2, 7, 4), msgKeep(4, 2, 7, 0, wr("p", 4, 1)), msgAsk(4, 2, 7, "k"),
		msgTell(4, 2, 7, "k", spans(sp(4, 1)), wr("k", 4, 1)), msgSeek(4, 2, 7, 0, "p"), msgFound(4, 2, 7, 4, "k", wr("k", 4, 1)),
		msgClock(4, 2, 1, sp(4, 1)), msgShip(4, 2, 1, spans(sp(4, 1)), wr("k", 4, 1)), msgBack(4, 2, wr("k", 4, 1)), msgTook(4, 2, "p", dot(4, 1)),
	}
}

// TestP1404Wire: bytes that are no message: cut off anywhere, with a byte more, or any bytes.
func TestP1404Wire(t *testing.T) {
	p := fresh(t, five(), 2)
	no := func(b []byte) {
		t.Helper()
		p.wantNo(fmt.Sprintf("Handle of %x", b), api.ErrWire, func() (api.Acts, api.Errno) { return p.n.Handle(b) })
	}
	no(nil)
	for _, m := range kinds() {
		b := bytesOf(t, m)
		for cut := range b {
			no(b[:cut])
		}
		no(append(b, 0))
		no(append([]byte{byte(m.Kind + 11)}, b[1:]...))
	}
	r := rand.New(rand.NewSource(1))
	for range 300 {
		b := make([]byte, r.Intn(40))
		r.Read(b)
		if _, err := p.n.Handle(b); err != api.ErrWire && err != api.ErrMsg {
			t.Errorf("Handle of %x: %d", b, err)
		}
	}
}

// TestP1404Down: a node that is down takes nothing, right or wrong.
func TestP1404Down(t *testing.T) {
	p := fresh(t, five(), 2)
	p.d.Off()
	for _, m := range kinds() {
		p.refuses(m, api.ErrDown)
		m.To = 3
		p.refuses(m, api.ErrDown)
	}
	p.wantNo("no bytes", api.ErrDown, func() (api.Acts, api.Errno) { return p.n.Handle(nil) })
}

// TestP1404FromAndTo: a message of any kind that goes to another node, or comes from the node itself, or from none.
func TestP1404FromAndTo(t *testing.T) {
	for _, m := range kinds() {
		p := fresh(t, five(), 2)
		for to := range api.MaxNodes {
			for from := range api.MaxNodes {
				m.From, m.To = from, to
				if to != 2 || from == 2 || from >= 5 {
					p.refuses(m, api.ErrMsg)
				}
			}
		}
	}
}

// TestP1404ErrMsgFirst: whom a message is from and to is asked ahead of what it says.
func TestP1404ErrMsgFirst(t *testing.T) {
	p := fresh(t, five(), 2)
	p.refuses(msgKeep(4, 2, 1, 2, wr("p", 4, 1)), api.ErrNode)
	p.refuses(msgKeep(4, 3, 1, 2, wr("p", 4, 1)), api.ErrMsg)
	p.refuses(msgKeep(5, 2, 1, 2, wr("p", 4, 1)), api.ErrMsg)
	p.refuses(msgKeep(2, 2, 1, 2, wr("p", 4, 1)), api.ErrMsg)
}

// wrongWrites: of the key k, none of which is right for five.
func wrongWrites() map[string]api.Write {
	return map[string]api.Write{
		"of node 5": wr("k", 5, 1), "of node 7": wr("k", 7, 1), "a count beyond Count": wr("k", 4, 1001), "a count far beyond": wr("k", 4, api.MaxCount),
		"a context of node 5": wr("k", 4, 1, sp(5, 1)), "a context of node 7": wr("k", 4, 1, sp(0, 1), sp(7, 2)), "a context beyond Count": wr("k", 4, 1, sp(0, 1001)),
		"a context's bit beyond Count": wr("k", 4, 1, far(0, 998, 1<<2)), "a context beyond Gap": wr("k", 4, 1, far(0, 3, 1<<6)), "a context far beyond Gap": wr("k", 4, 1, far(0, 3, 1<<63)),
	}
}

// rightWrites: at their limits.
func rightWrites() []api.Write {
	return list(wr("k", 0, 6), wr("k", 1, 1, sp(0, 1000)), wr("k", 1, 2, far(0, 3, 1<<5)), wr("k", 1, 3, far(0, 998, 2), sp(4, 999)),
		api.Write{Dot: dot(3, 1), Key: "k", Dead: true, Ctx: spans(sp(0, 1), sp(1, 1), sp(2, 1), sp(4, 1))}, api.Write{Dot: dot(4, 1), Key: "k", Value: make([]byte, 64)})
}

// TestP1404Store: the write is merged, and answered; also where it is known; also where no call waits for it.
func TestP1404Store(t *testing.T) {
	for _, w := range rightWrites() {
		p := fresh(t, five(), 2)
		for _, call := range []int{7, 7, 0, api.MaxCalls} {
			for _, from := range []int{0, 1, 3, 4} { // whoever sends it
				p.handle(msgStore(from, 2, call, w), send(msgStored(2, from, call, 2)))
				p.wantRead("k", w)
			}
		}
		if p.d.Writes() != 5+9 {
			t.Errorf("%d raw writes; want one commit", p.d.Writes()-5)
		}
	}
}

// TestP1404StoreRefused: no right write; a range that prefers others; the errors of Merge.
func TestP1404StoreRefused(t *testing.T) {
	p := fresh(t, five(), 2)
	for _, w := range wrongWrites() {
		p.refuses(msgStore(4, 2, 7, w), api.ErrMsg)
	}
	p.refuses(msgStore(4, 2, 7, wr("k", 4, 7)), api.ErrGap)
	q := fresh(t, five(), 0)
	for _, key := range []string{"g", "a", "b"} {
		q.refuses(msgStore(4, 0, 7, wr(key, 4, 1)), api.ErrMsg)
	}
	q.refuses(msgStore(4, 0, 7, wr("g", 4, 900)), api.ErrMsg)

	x := fresh(t, three(), atP)
	x.take(msgStore(atQ, atP, 0, wr("k", atQ, 1)), msgStore(atQ, atP, 0, wr("k", atQ, 2)))
	x.refuses(msgStore(atQ, atP, 7, wr("k", atQ, 3)), api.ErrSiblings)
	x.take(msgStore(atQ, atP, 0, wr("j", atQ, 3)))
	x.refuses(msgStore(atQ, atP, 7, wr("i", atQ, 4)), api.ErrKeys)
	x.refuses(msgStore(atQ, atP, 7, wr("i", atQ, 8)), api.ErrGap)
	x.handle(msgStore(atS, atP, 7, wr("i", atQ, 3)), send(msgStored(atP, atS, 7, atP))) // its dot is known
}

// TestP1404Ask: the siblings, and the bases of the clock of the key's range alone.
func TestP1404Ask(t *testing.T) {
	p := fresh(t, five(), 4)
	p.handle(msgAsk(2, 4, 1, "k"), send(msgTell(4, 2, 1, "k", nil)))
	w := p.put(1, "k")
	p.put(2, "p")
	u := wr("k", 2, 1)
	p.take(msgStore(2, 4, 0, u), msgStore(2, 4, 0, wr("a", 2, 3)), msgStore(2, 4, 0, wr("a", 3, 2)))
	wrote := p.d.Writes()
	p.handle(msgAsk(3, 4, 9, "k"), send(msgTell(4, 3, 9, "k", spans(sp(2, 1), sp(4, 1)), u, w)))
	p.handle(msgAsk(0, 4, 0, "d"), send(msgTell(4, 0, 0, "d", spans(sp(2, 1), sp(4, 1)))))
	p.handle(msgAsk(1, 4, 4096, "q"), send(msgTell(4, 1, 4096, "q", spans(sp(4, 1)))))
	p.refuses(msgAsk(3, 4, 9, "g"), api.ErrMsg)
	p.refuses(msgAsk(3, 4, 9, "b"), api.ErrMsg)
	if p.d.Writes() != wrote {
		t.Errorf("MsgAsk: %d raw writes", p.d.Writes()-wrote)
	}
}

// TestP1404AnswersRefused: an answer that does not fit the config is none, whether a call waits for it or not.
func TestP1404AnswersRefused(t *testing.T) {
	for _, waiting := range []bool{false, true} {
		p := fresh(t, five(), 2)
		if waiting {
			p.does(p.n.Put(7, "k", false, nil, nil, 2, true))
			p.does(p.n.Get(8, "k", 2, true))
			p.does(p.n.Fire(0))
			p.does(p.n.Fire(0))
		}
		for owner := 5; owner < api.MaxNodes; owner++ {
			p.refuses(msgStored(4, 2, 7, owner), api.ErrMsg)
			p.refuses(msgFound(0, 2, 8, owner, "k"), api.ErrMsg)
		}
		for _, set := range [][]api.Span{spans(sp(5, 1)), spans(sp(7, 1)), spans(sp(0, 1), sp(6, 1)), spans(sp(0, 1001)), spans(sp(4, api.MaxCount))} {
			p.refuses(msgTell(4, 2, 8, "k", set), api.ErrMsg)
		}
		for _, w := range wrongWrites() {
			p.refuses(msgTell(4, 2, 8, "k", nil, w), api.ErrMsg)
			p.refuses(msgTell(4, 2, 8, "k", nil, wr("k", 0, 1), w), api.ErrMsg)
			p.refuses(msgFound(0, 2, 8, 4, "k", w), api.ErrMsg)
			p.refuses(msgFound(0, 2, 8, 4, "k", wr("k", 0, 1), w), api.ErrMsg)
		}
	}
}

// TestP1404Answers: coord takes them; where nobody waits for one, nothing is done.
func TestP1404Answers(t *testing.T) {
	p := fresh(t, five(), 2)
	for _, m := range []api.Msg{msgStored(4, 2, 7, 4), msgStored(4, 2, 0, 0), msgTell(4, 2, 8, "k", spans(sp(0, 1000), sp(4, 1000)), rightWrites()...), msgFound(0, 2, 8, 4, "k", rightWrites()...)} {
		p.handle(m, api.Acts{})
	}
	w := api.Write{Dot: dot(2, 1), Key: "k"}
	p.does(p.n.Put(7, "k", false, nil, nil, 2, true))
	p.does(p.n.Get(8, "k", 2, true))
	p.want("Fire", send(msgKeep(2, 0, 7, 4, w), msgKeep(2, 1, 7, 3, w)))(p.n.Fire(0))
	p.want("Fire", send(msgSeek(2, 0, 8, 4, "k"), msgSeek(2, 1, 8, 3, "k")))(p.n.Fire(0))
	p.handle(msgStored(0, 2, 7, 3), api.Acts{}) // it was asked for 4
	p.handle(msgFound(1, 2, 8, 4, "k", wr("k", 4, 1)), api.Acts{})
	p.handle(msgTell(4, 2, 8, "a", nil), api.Acts{})
	p.handle(msgStored(0, 2, 7, 4), done(doneOK(7, w)))
	u := wr("k", 4, 1, sp(2, 1))
	p.handle(msgFound(0, 2, 8, 4, "k", u), done(got(8, spans(sp(2, 1), sp(4, 1)), u)))
	p.wantRead("k", u)
	p.handle(msgTell(4, 2, 8, "k", nil), api.Acts{})
	p.wantCalls()
}

// TestP1404Hints: the four messages of hints, and their errors.
func TestP1404Hints(t *testing.T) {
	all := world(t, three())
	s, q := all[atS], all[atQ]
	w, u := wr("k", atP, 1), wr("k", atP, 2)
	for range 2 {
		s.handle(msgKeep(atP, atS, 9, atQ, w), send(msgStored(atS, atP, 9, atQ)))
	}
	s.wantHints(api.Hint{Owner: atQ, Write: w})
	s.handle(msgKeep(atP, atS, 8, atP, u), send(msgStored(atS, atP, 8, atP)))
	s.refuses(msgKeep(atP, atS, 9, atQ, u), api.ErrHints)
	s.refuses(msgKeep(atP, atS, 9, atS, u), api.ErrNode)
	s.refuses(msgKeep(atP, atS, 9, 3, u), api.ErrNode)
	s.refuses(msgKeep(atP, atS, 9, atQ, wr("k", 3, 1)), api.ErrWrite)
	s.refuses(msgKeep(atP, atS, 9, atQ, wr("k", 1, 101)), api.ErrWrite)
	q.refuses(msgKeep(atS, atQ, 9, atP, u), api.ErrMine)

	s.handle(msgSeek(atP, atS, 3, atQ, "k"), send(msgFound(atS, atP, 3, atQ, "k", w)))
	s.handle(msgSeek(atQ, atS, 3, atQ, "j"), send(msgFound(atS, atQ, 3, atQ, "j")))
	s.handle(msgSeek(atQ, atS, 3, 7, "k"), send(msgFound(atS, atQ, 3, 7, "k")))

	for range 2 {
		q.handle(msgBack(atS, atQ, w), send(msgTook(atQ, atS, "k", w.Dot)))
	}
	q.wantRead("k", w)
	q.refuses(msgBack(atS, atQ, wr("k", atP, 9)), api.ErrGap)
	q.refuses(msgBack(atS, atQ, wr("k", atP, 101)), api.ErrWrite)
	s.refuses(msgBack(atQ, atS, w), api.ErrMine)

	s.handle(msgTook(atP, atS, "k", w.Dot), api.Acts{})
	s.handle(msgTook(atQ, atS, "j", w.Dot), api.Acts{})
	s.wantHints(api.Hint{Owner: atP, Write: u}, api.Hint{Owner: atQ, Write: w})
	for range 2 {
		s.handle(msgTook(atQ, atS, "k", w.Dot), api.Acts{})
		s.wantHints(api.Hint{Owner: atP, Write: u})
	}
}

// TestP1404Repair: the two messages of repair, and their errors.
func TestP1404Repair(t *testing.T) {
	all := world(t, five())
	two, four := all[2], all[4]
	w := four.put(1, "k")
	four.handle(msgClock(2, 4, 1), send(msgShip(4, 2, 1, spans(sp(4, 1)), w)))
	four.handle(msgClock(2, 4, 1, sp(4, 1)), api.Acts{})
	four.refuses(msgClock(0, 4, 1), api.ErrMsg)
	four.refuses(msgClock(2, 4, 0), api.ErrMsg)
	four.refuses(msgClock(2, 4, 15), api.ErrMsg)
	four.refuses(msgClock(2, 4, 1, sp(5, 1)), api.ErrMsg)
	four.refuses(msgClock(2, 4, 1, sp(0, 1001)), api.ErrMsg)
	four.refuses(msgClock(2, 4, 1, far(0, 0, 1<<6)), api.ErrMsg)

	for range 2 {
		two.handle(msgShip(4, 2, 1, spans(sp(4, 900)), w), api.Acts{})
		two.wantRead("k", w)
		two.wantClock(1, sp(4, 900))
	}
	two.refuses(msgShip(0, 2, 1, spans(sp(4, 900)), w), api.ErrMsg)
	two.refuses(msgShip(4, 2, 1, spans(sp(5, 1))), api.ErrMsg)
	two.refuses(msgShip(4, 2, 1, spans(sp(4, 1)), wr("k", 4, 2)), api.ErrWrite)
	two.refuses(msgShip(4, 2, 1, spans(sp(4, 1)), wr("g", 4, 1)), api.ErrWrite)
	var three, many []api.Write
	for i, key := range keysOf(five(), 1, 7) {
		many = append(many, wr(key, 0, i+1))
		three = append(three, wr("k", 0, i+1))
	}
	two.refuses(msgShip(4, 2, 1, spans(sp(0, 3)), three[:3]...), api.ErrSiblings)
	two.refuses(msgShip(4, 2, 1, spans(sp(0, 7)), many...), api.ErrKeys)
}
