package session

import (
	"testing"

	"rookery/api"
)

// TestExamples: the table of chapter 15, row by row.
func TestExamples(t *testing.T) {
	for _, first := range []int{4, -1} {
		if s, err := New(four(), first); s != nil || err != api.ErrNode {
			t.Errorf("New(c, %d): %v, %d", first, s, err)
		}
	}
	s := fresh(t, four(), 3)
	wantNext(t, s, "c", 3)
	wantNext(t, s, "g", 3)
	if n, err := s.Next(""); n != 0 || err != api.ErrKey {
		t.Errorf("Next of no key: %d, %d", n, err)
	}
	s.Failed(3)
	wantNext(t, s, "c", 2)
	wantNext(t, s, "g", 1)
	s.Failed(2)
	s.Failed(7)
	wantNext(t, s, "c", 3)
	wantSeen(t, s, "c", 0)
	wantErr(t, "Wrote", s.Wrote(wr("c", 2, 1)), api.OK)
	wantSeen(t, s, "c", 0, dot(2, 1))
	wantErr(t, "Got nothing", s.Got(5, "c", nil, nil), api.ErrStale)
	both := spans(sp(2, 1), sp(3, 1))
	wantErr(t, "Got two", s.Got(5, "c", both, list(wr("c", 2, 1), wr("c", 3, 1))), api.OK)
	wantSeen(t, s, "c", 5, dot(2, 1), dot(3, 1))
	wantErr(t, "Got one that covers", s.Got(6, "c", both, list(wr("c", 3, 1, sp(2, 1)))), api.OK)
	wantSeen(t, s, "c", 6, dot(3, 1))
	wantErr(t, "Wrote a sibling", s.Wrote(wr("c", 2, 2, sp(2, 1))), api.OK)
	wantSeen(t, s, "c", 6, dot(2, 2), dot(3, 1))
	wantErr(t, "Wrote over both", s.Wrote(wr("c", 2, 3, sp(2, 2), sp(3, 1))), api.OK)
	wantSeen(t, s, "c", 6, dot(2, 3))
	wantErr(t, "Got what was", s.Got(7, "c", spans(sp(2, 2), sp(3, 1)), list(wr("c", 2, 2, sp(2, 1)), wr("c", 3, 1))), api.ErrStale)
	all := spans(sp(2, 3))
	wantErr(t, "Got of call 0", s.Got(0, "c", all, nil), api.ErrArg)
	wantErr(t, "Got of no key", s.Got(7, "", all, nil), api.ErrKey)
	wantErr(t, "Got a token of node 4", s.Got(7, "c", spans(sp(4, 1)), nil), api.ErrSet)
	for _, l := range [][]api.Write{list(wr("b", 2, 3)), list(wr("c", 3, 1)), list(wr("c", 2, 3), wr("c", 2, 1))} {
		wantErr(t, "Got wrong writes", s.Got(7, "c", all, l), api.ErrWrite)
	}
	wantSeen(t, s, "c", 6, dot(2, 3))
}
