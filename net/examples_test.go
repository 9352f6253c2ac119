package net

import (
	"testing"

	"rookery/api"
)

// TestExamples: the chapter's table, row by row.
func TestExamples(t *testing.T) {
	for _, room := range []int{0, 257} {
		if b, err := New(room); b != nil || err != api.ErrArg {
			t.Errorf("row 1: New(%d): %v, %d", room, b != nil, err)
		}
	}
	b := filled(t, 3, 3)
	wantErr(t, "row 2: Send d", b.Send(note("d")), api.ErrLost)
	wantBag(t, "row 2", b, "a", "b", "c")

	wantErr(t, "row 3: Double(0)", b.Double(0), api.ErrLost)
	wantErr(t, "row 3: Drop(3)", b.Drop(3), api.ErrIndex)
	wantErr(t, "row 3: Move(0, 3)", b.Move(0, 3), api.ErrIndex)
	wantBag(t, "row 3", b, "a", "b", "c")

	wantErr(t, "row 4: Move(0, 2)", b.Move(0, 2), api.OK)
	wantBag(t, "row 4", b, "b", "c", "a")
	wantErr(t, "row 4: Move(2, 1)", b.Move(2, 1), api.OK)
	wantBag(t, "row 4", b, "b", "a", "c")
	wantErr(t, "row 4: Move(1, 1)", b.Move(1, 1), api.OK)
	wantBag(t, "row 4", b, "b", "a", "c")

	l, err := b.Deliver(1)
	wantLetter(t, "row 5: Deliver(1)", l, err, note("a"))
	wantErr(t, "row 5: Double(1)", b.Double(1), api.OK)
	wantBag(t, "row 5", b, "b", "c", "c")

	wantErr(t, "row 6: Drop(0)", b.Drop(0), api.OK)
	l, err = b.At(0)
	wantLetter(t, "row 6: At(0)", l, err, note("c"))
	l, err = b.At(2)
	wantNoLetter(t, "row 6: At(2)", l, err)
	l, err = b.Deliver(-1)
	wantNoLetter(t, "row 6: Deliver(-1)", l, err)
	wantBag(t, "row 6", b, "c", "c")

	wantCounts(t, "row 7", b, 3, 1, 1, 1, 1)
}
