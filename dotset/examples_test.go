package dotset

import (
	"testing"

	"rookery/api"
)

// TestExamples: the table of chapter 3, row by row.
func TestExamples(t *testing.T) {
	checkRow(t, api.OK, nil, 1, 64)
	checkRow(t, api.ErrArg, nil, 0, 65)
	checkRow(t, api.OK, set(sp(2, 5, 7, 9)), 4)
	checkRow(t, api.ErrSet, set(sp(2, 5, 7, 9)), 3)
	for gap := 1; gap <= 64; gap++ {
		for _, x := range []api.Span{{Node: 2, Base: 5, Bits: 1}, {Node: 2}, {Node: 8, Base: 1}, {Base: -1, Bits: 2}, {Base: 1048577}, {Base: 1048575, Bits: 2}} {
			checkRow(t, api.ErrSet, set(x), gap)
		}
		checkRow(t, api.ErrSet, set(sp(1, 3), sp(0, 2)), gap)
		checkRow(t, api.ErrSet, set(sp(1, 3), sp(1, 4)), gap)
	}

	hasRow(t, true, dot(2, 5), dot(2, 7))
	hasRow(t, false, dot(2, 6), dot(2, 0), dot(3, 1))

	addRow(t, nil, dot(0, 1), 1, set(sp(0, 1)), api.OK)
	addRow(t, nil, dot(0, 2), 1, nil, api.ErrGap)
	addRow(t, nil, dot(0, 2), 2, set(sp(0, 0, 2)), api.OK)
	addRow(t, set(sp(0, 0, 2, 3)), dot(0, 1), 4, set(sp(0, 3)), api.OK)
	addRow(t, set(sp(2, 5, 7)), dot(2, 5), 4, set(sp(2, 5, 7)), api.OK)
	addRow(t, set(sp(2, 5, 7)), dot(2, 9), 4, set(sp(2, 5, 7, 9)), api.OK)
	addRow(t, set(sp(2, 5, 7)), dot(2, 10), 4, nil, api.ErrGap)
	addRow(t, set(sp(2, 5, 7)), dot(1, 4), 4, set(sp(1, 0, 4), sp(2, 5, 7)), api.OK)
	for _, d := range []api.Dot{dot(8, 1), dot(1, 0), dot(1, 1048577)} {
		addRow(t, set(sp(1, 3)), d, 4, nil, api.ErrArg)
	}

	unionRow(t, set(sp(0, 2, 4)), set(sp(0, 3)), 4, set(sp(0, 4)))
	unionRow(t, set(sp(0, 1, 3)), set(sp(0, 1, 4)), 3, set(sp(0, 1, 3, 4)))
	unionRow(t, set(sp(0, 0, 2)), set(sp(1, 1)), 2, set(sp(0, 0, 2), sp(1, 1)))

	if !Within(set(sp(0, 2)), set(sp(0, 3))) || Within(set(sp(0, 3)), set(sp(0, 2))) || !Within(nil, set(sp(0, 3))) || !Within(nil, nil) {
		t.Error("the row of Within")
	}
	if n := Count(set(sp(0, 3, 5), sp(4, 1))); n != 5 {
		t.Errorf("Count: %d", n)
	}
	wantSet(t, "Bases", Bases(set(sp(0, 3, 5), sp(1, 0, 2), sp(4, 1))), api.OK, set(sp(0, 3), sp(4, 1)))
	wantDots(t, "Missing", Missing(set(sp(0, 3, 5), sp(2, 2)), set(sp(0, 1, 3), sp(2, 1))), dot(0, 2), dot(0, 5), dot(2, 2))
}

func checkRow(t *testing.T, want api.Errno, s []api.Span, gaps ...int) {
	t.Helper()
	for _, gap := range gaps {
		if err := Check(s, gap); err != want {
			t.Errorf("Check(%v, %d): %d; want %d", s, gap, err, want)
		}
	}
}

func hasRow(t *testing.T, want bool, dots ...api.Dot) {
	t.Helper()
	for _, d := range dots {
		if got := Has(set(sp(2, 5, 7)), d); got != want {
			t.Errorf("Has(2:5+7, %v): %v", d, got)
		}
	}
}

func addRow(t *testing.T, s []api.Span, d api.Dot, gap int, want []api.Span, wantE api.Errno) {
	t.Helper()
	got, err := Add(s, d, gap)
	if wantE != api.OK {
		wantErr(t, "Add", got, err, wantE)
		return
	}
	wantSet(t, "Add", got, err, want)
}

func unionRow(t *testing.T, a, b []api.Span, gap int, want []api.Span) {
	t.Helper()
	got, err := Union(a, b, gap)
	wantSet(t, "Union", got, err, want)
}
