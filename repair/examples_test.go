package repair

import (
	"testing"

	"rookery/api"
)

// TestExampleNew: the first row of the chapter's table.
func TestExampleNew(t *testing.T) {
	s := fresh(t, three(), 2).s
	wrong := three()
	wrong.Nodes = 9
	if r, err := New(s, wrong, 2); r != nil || err != api.ErrArg {
		t.Errorf("New with Nodes 9: %v, %d; want nil, ErrArg", r != nil, err)
	}
	if r, err := New(s, three(), 3); r != nil || err != api.ErrNode {
		t.Errorf("New with the node 3 of 3: %v, %d; want nil, ErrNode", r != nil, err)
	}
}

// TestExamples: the rows of node 2, one behind the other.
func TestExamples(t *testing.T) {
	p := fresh(t, three(), 2)
	p.wantNext(t, 0, 1)
	a, err := p.r.Time()
	wantActs(t, "Time", a, err, clock(2, 1, 0))
	p.wantNext(t, 1, 0)
	a, err = p.r.Time()
	wantActs(t, "Time", a, err, clock(2, 0, 1))
	p.wantNext(t, 0, 1)

	a, err = p.r.Clock(clock(1, 2, 0))
	wantActs(t, "Clock, all empty", a, err)
	w := p.mint(t, "g")
	a, err = p.r.Clock(clock(1, 2, 0))
	wantActs(t, "Clock behind a write", a, err, ship(2, 1, 0, spans(sp(2, 1)), w))
	a, err = p.r.Clock(clock(1, 2, 0, sp(2, 1)))
	wantActs(t, "Clock that has it", a, err)
	a, err = p.r.Clock(clock(1, 2, 0, sp(1, 4)))
	wantActs(t, "Clock that has others", a, err, ship(2, 1, 0, spans(sp(2, 1)), w))

	for what, m := range map[string]api.Msg{"the range 1 from 1": clock(1, 2, 1), "the range 2": clock(1, 2, 2), "from 2": clock(2, 2, 0)} {
		p.wantNo(t, "Clock, "+what, api.ErrMsg, func() (api.Acts, api.Errno) { return p.r.Clock(m) })
	}

	p.wantBehind(t, 0, spans(sp(1, 4)), 1, 4)
	p.wantBehind(t, 0, spans(sp(2, 1)), 0, 0)
	p.wantBehind(t, 7, nil, 0, 0)

	q := fresh(t, three(), 0)
	q.wantNext(t, 1, 2)
}

// TestExampleAlone: the last row.
func TestExampleAlone(t *testing.T) {
	p := fresh(t, alone(), 0)
	if g, n, err := p.r.Next(); g != 0 || n != 0 || err != api.ErrPair {
		t.Errorf("Next: %d, %d, %d; want ErrPair", g, n, err)
	}
	p.wantNo(t, "Time", api.ErrPair, p.r.Time)
}
