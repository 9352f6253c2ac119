package store

import (
	"testing"

	"rookery/api"
)

// TestExamples: the table of chapter 9, row by row.
func TestExamples(t *testing.T) {
	d := newDisk(t)
	s := opened(t, d, three(), 1)
	if d.Writes() != 5 {
		t.Errorf("Open: %d raw writes; want 5", d.Writes())
	}
	wantState(t, "Open", s, state(1, clocks(cl(0)), nil))

	wantDone(t, s, d, mint("k", false, "v"), wr(1, 1), 9)
	wantClock(t, "Mint", s, 0, sp(1, 1))
	wantDone(t, s, d, mint("k", false, "w"), with("w", wr(1, 2)), 9)
	wantWrites(t, "Read", s.Read("k"), wr(1, 1), with("w", wr(1, 2)))
	wantNo(t, s, d, mint("k", false, "x"), api.ErrSiblings)
	dead := gone(wr(1, 3, sp(1, 2)))
	wantDone(t, s, d, mint("k", true, "", sp(1, 2)), dead, 9)
	wantWrites(t, "Read", s.Read("k"), dead)

	wantNo(t, s, d, mint("k", true, "x"), api.ErrArg)
	wantNo(t, s, d, mint("", false, "v"), api.ErrKey)
	wantNo(t, s, d, mint("k", false, string(make([]byte, 65))), api.ErrLong)
	wantNo(t, s, d, mint("k", false, "v", sp(1, 200)), api.ErrSet)
	wantNo(t, s, d, mint("k", false, "v", sp(1, 4)), api.ErrWrite)

	wantNo(t, s, d, merge(wr(2, 5)), api.ErrGap)
	wantDone(t, s, d, merge(wr(2, 2)), true, 9)
	wantClock(t, "Merge", s, 0, sp(1, 3), sp(2, 0, 2))
	wantWrites(t, "Read", s.Read("k"), dead, wr(2, 2))
	wantDone(t, s, d, merge(wr(1, 2)), false, 0)
	wantDone(t, s, d, merge(of("j", wr(2, 2))), false, 0)
	both := wr(2, 1, sp(1, 3), sp(2, 0, 2))
	wantDone(t, s, d, merge(both), true, 9)
	wantWrites(t, "Read", s.Read("k"), both)
	wantClock(t, "Merge", s, 0, sp(1, 3), sp(2, 2))

	wantDone(t, s, d, take(0, spans(sp(1, 3), sp(2, 9))), 0, 5)
	wantClock(t, "Take", s, 0, sp(1, 3), sp(2, 9))
	wantDone(t, s, d, take(0, spans(sp(2, 9))), 0, 0)
	wantNo(t, s, d, take(1, nil), api.ErrRange)
	wantNo(t, s, d, take(0, spans(sp(2, 10)), wr(2, 11)), api.ErrWrite)
	wantNo(t, s, d, take(0, spans(sp(0, 1)), wr(0, 1), wr(0, 1)), api.ErrWrite)
	wantNo(t, s, d, take(0, spans(sp(0, 2)), of("a", wr(0, 1)), of("b", wr(0, 2))), api.ErrKeys)
	wantDone(t, s, d, take(0, spans(sp(0, 2)), of("a", wr(0, 1))), 1, 9)
	wantClock(t, "Take", s, 0, sp(0, 2), sp(1, 3), sp(2, 9))

	m := s.Missing(clocks(cl(0, sp(0, 1), sp(1, 9), sp(2, 1)), cl(0), cl(7)))
	if len(m) != 3 {
		t.Fatalf("Missing: %d lists; want 3", len(m))
	}
	wantWrites(t, "Missing, all are there", m[0])
	wantWrites(t, "Missing, none are there", m[1], of("a", wr(0, 1)), both)
	wantWrites(t, "Missing, no range", m[2])

	wantNo(t, s, d, keep(2, wr(0, 7)), api.ErrMine)
	wantNo(t, s, d, keep(1, wr(0, 7)), api.ErrNode)
	wantNo(t, s, d, keep(0, wr(0, 7)), api.ErrMine)
}

// TestExamplesStandIn: what the chapter says of node 0.
func TestExamplesStandIn(t *testing.T) {
	s, d := fresh(t, three(), 0)
	wantDone(t, s, d, keep(1, wr(2, 7)), true, 5)
	wantDone(t, s, d, keep(1, wr(2, 7)), false, 0)
	wantNo(t, s, d, keep(2, wr(2, 7)), api.ErrHints)
	wantDone(t, s, d, giveUp(1, "k", dot(2, 7)), true, 1)
	wantNo(t, s, d, mint("k", false, "v"), api.ErrMine)
	wantNo(t, s, d, merge(wr(2, 1)), api.ErrMine)
}

// TestExamplesPower: what it says of Arm(4, 9).
func TestExamplesPower(t *testing.T) {
	s, d := fresh(t, three(), 1)
	wantDone(t, s, d, mint("k", false, "v"), wr(1, 1), 9)
	d.Arm(4, 9)
	if w, err := s.Mint("k", false, []byte("w"), nil); show(w) != show(api.Write{}) || err != api.ErrDown {
		t.Errorf("Mint: %s, %d; want ErrDown", show(w), err)
	}
	wantDown(t, "behind Mint", s, d)
	d.On()
	wantState(t, "On, Open", opened(t, d, three(), 1), state(2, clocks(cl(0, sp(1, 1))), nil, list(wr(1, 1))))
}
