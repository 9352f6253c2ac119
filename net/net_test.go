package net

import (
	"bytes"
	"math"
	"slices"
	"strconv"
	"testing"

	"rookery/api"
)

func TestP1001New(t *testing.T) {
	for _, room := range []int{0, -1, api.MaxBag + 1, math.MinInt, math.MaxInt} {
		if b, err := New(room); b != nil || err != api.ErrArg {
			t.Errorf("New(%d): %v, %d; want nil, ErrArg", room, b != nil, err)
		}
	}
	for _, room := range []int{1, 2, 3, api.MaxBag - 1, api.MaxBag} {
		b := fresh(t, room)
		wantBag(t, "a new bag", b)
		wantCounts(t, "a new bag", b, 0, 0, 0, 0, 0)
		if l := b.To(0); len(l) != 0 {
			t.Errorf("To(0) of a new bag: %v", l)
		}
	}
}

// TestP1001Empty: a bag without letters has none at any place.
func TestP1001Empty(t *testing.T) {
	b := fresh(t, 1)
	for _, i := range []int{0, 1, -1, math.MinInt, math.MaxInt} {
		l, err := b.Deliver(i)
		wantNoLetter(t, "Deliver", l, err)
		wantErr(t, "Drop", b.Drop(i), api.ErrIndex)
		wantErr(t, "Double", b.Double(i), api.ErrIndex)
		wantErr(t, "Move", b.Move(i, 0), api.ErrIndex)
		wantErr(t, "Move", b.Move(0, i), api.ErrIndex)
	}
	wantBag(t, "an empty bag", b)
	wantCounts(t, "an empty bag", b, 0, 0, 0, 0, 0)
}

// odd: letters of any ints and any bytes.
func odd() []api.Letter {
	return []api.Letter{
		{},
		{From: -1, To: math.MaxInt, Data: []byte{}},
		{From: math.MinInt, To: -7, Data: []byte{0}},
		{From: math.MaxInt, To: math.MinInt, Data: []byte{0xFF, 0, 0xFF}},
		{From: 3, To: 3, Data: bytes.Repeat([]byte("rook"), 100000)},
		{From: 3, To: 3, Data: bytes.Repeat([]byte("rook"), 100000)},
	}
}

func TestP1002Send(t *testing.T) {
	b := fresh(t, 6)
	for i, l := range odd() {
		wantErr(t, "Send", b.Send(l), api.OK)
		wantLetters(t, "behind Send", b, odd()[:i+1])
	}
}

// TestP1002Room: as many letters as there is room for, and not one more.
func TestP1002Room(t *testing.T) {
	for _, room := range []int{1, 2, 3, 17, api.MaxBag - 1, api.MaxBag} {
		b := fresh(t, room)
		var want []api.Letter
		for i := range room {
			l := note(strconv.Itoa(i))
			want = append(want, l)
			wantErr(t, "Send", b.Send(l), api.OK)
		}
		for i := range 3 {
			wantErr(t, "Send into a full bag", b.Send(note("x")), api.ErrLost)
			wantCounts(t, "a full bag", b, room, i+1, 0, 0, 0)
		}
		wantLetters(t, "a full bag", b, want)
	}
}

// TestP1002RoomAgain: a letter that went out leaves its room, but a lost one does not come back.
func TestP1002RoomAgain(t *testing.T) {
	b := filled(t, 2, 2)
	wantErr(t, "Send c", b.Send(note("c")), api.ErrLost)
	wantErr(t, "Drop", b.Drop(0), api.OK)
	wantBag(t, "behind Drop", b, "b")
	wantErr(t, "Send d", b.Send(note("d")), api.OK)
	wantErr(t, "Send e", b.Send(note("e")), api.ErrLost)
	wantBag(t, "full again", b, "b", "d")
	l, err := b.Deliver(0)
	wantLetter(t, "Deliver", l, err, note("b"))
	wantErr(t, "Double", b.Double(0), api.OK)
	wantErr(t, "Send f", b.Send(note("f")), api.ErrLost)
	wantBag(t, "full of doubles", b, "d", "d")
}

func TestP1003Looking(t *testing.T) {
	b := fresh(t, 9)
	for i, l := range odd() {
		if b.Len() != i {
			t.Errorf("Len %d; want %d", b.Len(), i)
		}
		wantErr(t, "Send", b.Send(l), api.OK)
	}
	for range 2 { // looking takes nothing out
		for i, want := range odd() {
			l, err := b.At(i)
			wantLetter(t, "At", l, err, want)
		}
	}
	for _, i := range []int{-1, 6, 7, 8, 9, math.MinInt, math.MaxInt} {
		l, err := b.At(i)
		wantNoLetter(t, "At", l, err)
	}
	if b.Len() != 6 {
		t.Errorf("Len %d; want 6", b.Len())
	}
	wantCounts(t, "behind looking", b, 6, 0, 0, 0, 0)
}

func TestP1003To(t *testing.T) {
	b := fresh(t, 12)
	to := []int{2, 0, 2, -5, math.MaxInt, 2, 0, math.MinInt, 2, -5}
	for i, node := range to {
		wantErr(t, "Send", b.Send(api.Letter{From: 2 - node%2, To: node, Data: []byte{byte(i)}}), api.OK)
	}
	places := map[int][]int{
		0: {1, 6}, 1: nil, 2: {0, 2, 5, 8}, 3: nil, -5: {3, 9}, -1: nil,
		math.MaxInt: {4}, math.MinInt: {7}, math.MaxInt - 1: nil,
	}
	for node, want := range places {
		if l := b.To(node); !slices.Equal(l, want) {
			t.Errorf("To(%d): %v; want %v", node, l, want)
		}
	}
	wantErr(t, "Drop", b.Drop(0), api.OK)
	wantErr(t, "Move", b.Move(7, 0), api.OK)
	wantErr(t, "Double", b.Double(2), api.OK)
	for node, want := range map[int][]int{2: {0, 2, 5, 9}, 0: {1, 6}, -5: {3, 8}} {
		if l := b.To(node); !slices.Equal(l, want) {
			t.Errorf("To(%d) behind changes: %v; want %v", node, l, want)
		}
	}
}

// TestP1004Every: each place of bags of several lengths.
func TestP1004Every(t *testing.T) {
	for n := 1; n <= 6; n++ {
		for i := range n {
			left := slices.Delete(names(n), i, i+1)
			b := filled(t, n, n)
			l, err := b.Deliver(i)
			wantLetter(t, "Deliver", l, err, note(names(n)[i]))
			wantBag(t, "behind Deliver", b, left...)
			wantCounts(t, "behind Deliver", b, n, 0, 1, 0, 0)

			b = filled(t, n, n)
			wantErr(t, "Drop", b.Drop(i), api.OK)
			wantBag(t, "behind Drop", b, left...)
			wantCounts(t, "behind Drop", b, n, 0, 0, 1, 0)
		}
	}
}

func TestP1004Refused(t *testing.T) {
	b := filled(t, 5, 3)
	for _, i := range []int{-1, 3, 4, 5, math.MinInt, math.MaxInt} {
		l, err := b.Deliver(i)
		wantNoLetter(t, "Deliver", l, err)
		wantErr(t, "Drop", b.Drop(i), api.ErrIndex)
	}
	wantBag(t, "behind refusals", b, "a", "b", "c")
	wantCounts(t, "behind refusals", b, 3, 0, 0, 0, 0)
}

// TestP1004Odd: what is delivered is what was sent, whole.
func TestP1004Odd(t *testing.T) {
	b := fresh(t, 6)
	for _, l := range odd() {
		wantErr(t, "Send", b.Send(l), api.OK)
	}
	for i, want := range odd() {
		l, err := b.Deliver(0)
		wantLetter(t, "Deliver", l, err, want)
		wantLetters(t, "behind Deliver", b, odd()[i+1:])
	}
	l, err := b.Deliver(0)
	wantNoLetter(t, "Deliver of the letter behind the last one", l, err)
}

func TestP1005DoubleEvery(t *testing.T) {
	for n := 1; n <= 6; n++ {
		for i := range n {
			b := filled(t, n+2, n)
			want := names(n)
			for range 2 {
				wantErr(t, "Double", b.Double(i), api.OK)
				want = append(want, names(n)[i])
				wantBag(t, "behind Double", b, want...)
			}
			wantErr(t, "Double in a full bag", b.Double(i), api.ErrLost)
			wantBag(t, "behind a refused Double", b, want...)
			wantCounts(t, "behind a refused Double", b, n, 0, 0, 0, 2)
		}
	}
}

// TestP1005DoubleRefused: ErrIndex is asked first, in a full bag too.
func TestP1005DoubleRefused(t *testing.T) {
	for _, room := range []int{3, 4, 9} {
		b := filled(t, room, 3)
		for _, i := range []int{-1, 3, 4, 9, math.MinInt, math.MaxInt} {
			wantErr(t, "Double", b.Double(i), api.ErrIndex)
		}
		wantBag(t, "behind refusals", b, "a", "b", "c")
		wantCounts(t, "behind refusals", b, 3, 0, 0, 0, 0)
	}
}

func TestP1005DoubleOdd(t *testing.T) {
	b := fresh(t, 12)
	for _, l := range odd() {
		wantErr(t, "Send", b.Send(l), api.OK)
	}
	for i := range odd() {
		wantErr(t, "Double", b.Double(i), api.OK)
	}
	wantLetters(t, "doubles", b, append(odd(), odd()...))
}

// TestP1005MoveEvery: each pair of places, in bags with and without room.
func TestP1005MoveEvery(t *testing.T) {
	for n := 1; n <= 7; n++ {
		for i := range n {
			for j := range n {
				for _, room := range []int{n, n + 1} {
					b := filled(t, room, n)
					wantErr(t, "Move", b.Move(i, j), api.OK)
					rest := slices.Delete(names(n), i, i+1)
					wantBag(t, "behind Move", b, slices.Insert(rest, j, names(n)[i])...)
					wantCounts(t, "behind Move", b, n, 0, 0, 0, 0)
				}
			}
		}
	}
}

func TestP1005MoveRefused(t *testing.T) {
	for _, room := range []int{3, 5} {
		b := filled(t, room, 3)
		wrong := []int{-1, 3, 4, 5, math.MinInt, math.MaxInt}
		for _, i := range wrong {
			for _, j := range append([]int{0, 1, 2}, wrong...) {
				wantErr(t, "Move", b.Move(i, j), api.ErrIndex)
				wantErr(t, "Move", b.Move(j, i), api.ErrIndex)
			}
		}
		wantBag(t, "behind refusals", b, "a", "b", "c")
		wantCounts(t, "behind refusals", b, 3, 0, 0, 0, 0)
	}
}

// TestP1006Counts: each call's own number, and no other.
func TestP1006Counts(t *testing.T) {
	b := filled(t, 4, 2)
	wantCounts(t, "behind Send", b, 2, 0, 0, 0, 0)
	wantErr(t, "Double", b.Double(0), api.OK)
	wantErr(t, "Double", b.Double(2), api.OK)
	wantCounts(t, "behind Double", b, 2, 0, 0, 0, 2)
	wantErr(t, "Send into a full bag", b.Send(note("x")), api.ErrLost)
	wantCounts(t, "behind a lost letter", b, 2, 1, 0, 0, 2)
	wantErr(t, "Double in a full bag", b.Double(0), api.ErrLost)
	wantCounts(t, "behind a refused Double", b, 2, 1, 0, 0, 2)
	wantErr(t, "Drop", b.Drop(3), api.OK)
	wantCounts(t, "behind Drop", b, 2, 1, 0, 1, 2)
	for n := range 3 {
		if _, err := b.Deliver(0); err != api.OK {
			t.Errorf("Deliver: %d", err)
		}
		wantCounts(t, "behind Deliver", b, 2, 1, n+1, 1, 2)
	}
	wantBag(t, "all went out", b)
}
