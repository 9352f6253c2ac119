package sibs

import (
	"testing"

	"rookery/api"
)

// TestExamples: the table of chapter 5, row by row.
func TestExamples(t *testing.T) {
	if a, b := wr(1, 1, sp(0, 1)), wr(0, 1); !Covers(a, b) || Covers(b, a) {
		t.Error("the first row")
	}
	if Covers(wr(1, 1, sp(0, 1)), of("l", wr(0, 1))) {
		t.Error("the second row")
	}
	wantMerge(t, list(wr(0, 1)), wr(1, 1), 2, list(wr(0, 1), wr(1, 1)))
	wantRefused(t, list(wr(0, 1)), wr(1, 1), 1, api.ErrSiblings)
	wantMerge(t, list(wr(0, 1), wr(2, 1)), wr(1, 1, sp(0, 1)), 2, list(wr(1, 1, sp(0, 1)), wr(2, 1)))
	wantMerge(t, list(wr(1, 1, sp(0, 1))), wr(0, 1), 1, list(wr(1, 1, sp(0, 1))))
	wantMerge(t, list(wr(1, 1, sp(0, 1))), wr(1, 1), -5, list(wr(1, 1, sp(0, 1))))
	wantMerge(t, list(wr(0, 1, sp(1, 1))), wr(1, 1, sp(0, 1)), 9, list(wr(1, 1, sp(0, 1))))
	wantRefused(t, nil, wr(0, 1), 0, api.ErrSiblings)

	wantWrites(t, "Gather", Gather(list(wr(2, 1), wr(0, 1)), list(wr(1, 1, sp(0, 1)), wr(2, 1))), list(wr(1, 1, sp(0, 1)), wr(2, 1)))
	wantWrites(t, "Gather of nothing", Gather(), nil)
	wantWrites(t, "Gather of two empty sets", Gather(nil, list()), nil)

	wantToken(t, sets(list(wr(0, 1), wr(1, 3, sp(1, 2)))), bases(spans(sp(0, 4)), spans(sp(2, 1))), 4, spans(sp(0, 4), sp(1, 3), sp(2, 1)), nil)
	wantToken(t, sets(list(wr(1, 5))), nil, 4, nil, list(wr(1, 5)))
	wantToken(t, sets(list(wr(1, 5, sp(1, 1)))), nil, 4, spans(sp(1, 1, 5)), nil)
	wantToken(t, sets(list(wr(1, 5))), bases(spans(sp(1, 9))), 4, spans(sp(1, 9)), nil)

	for i, row := range []struct {
		set  []api.Write
		gap  int
		want bool
	}{
		{list(wr(0, 1), wr(1, 1)), 4, true}, {list(wr(1, 1), wr(0, 1)), 4, false}, {list(wr(0, 1), wr(1, 1, sp(0, 1))), 4, false},
		{list(wr(0, 2, sp(0, 0, 2))), 4, false}, {list(wr(0, 3, sp(0, 0, 2))), 1, false},
	} {
		if Valid(row.set, row.gap) != row.want {
			t.Errorf("Valid, %d of the last row", i)
		}
	}
}
