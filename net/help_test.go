package net

import (
	"bytes"
	"math"
	"slices"
	"testing"

	"rookery/api"
)

func fresh(t *testing.T, room int) *Bag {
	t.Helper()
	b, err := New(room)
	if b == nil || err != api.OK {
		t.Fatalf("New(%d): %v, %d", room, b != nil, err)
	}
	return b
}

// note: a letter that is told by its Data.
func note(s string) api.Letter { return api.Letter{From: 1, To: 2, Data: []byte(s)} }

// filled: a bag of that room with the letters a, b, .., so many.
func filled(t *testing.T, room, n int) *Bag {
	t.Helper()
	b := fresh(t, room)
	for _, s := range names(n) {
		wantErr(t, "Send", b.Send(note(s)), api.OK)
	}
	return b
}

// names: a, b, ..
func names(n int) []string {
	var out []string
	for i := range n {
		out = append(out, string(rune('a'+i)))
	}
	return out
}

func wantErr(t *testing.T, what string, err, want api.Errno) {
	t.Helper()
	if err != want {
		t.Errorf("%s: %d; want %d", what, err, want)
	}
}

func same(a, b api.Letter) bool {
	return a.From == b.From && a.To == b.To && bytes.Equal(a.Data, b.Data)
}

func wantLetter(t *testing.T, what string, l api.Letter, err api.Errno, want api.Letter) {
	t.Helper()
	if err != api.OK || !same(l, want) {
		t.Errorf("%s: %v, %d; want %v", what, l, err, want)
	}
}

// wantNoLetter: ErrIndex, and a letter of zeros.
func wantNoLetter(t *testing.T, what string, l api.Letter, err api.Errno) {
	t.Helper()
	if err != api.ErrIndex || !same(l, api.Letter{}) {
		t.Errorf("%s: %v, %d; want ErrIndex", what, l, err)
	}
}

// letters: all that are in the bag, as At tells them.
func letters(b *Bag) []api.Letter {
	var out []api.Letter
	for i := range b.Len() {
		l, _ := b.At(i)
		out = append(out, l)
	}
	return out
}

func wantLetters(t *testing.T, what string, b *Bag, want []api.Letter) {
	t.Helper()
	if got := letters(b); !slices.EqualFunc(got, want, same) {
		t.Errorf("%s: the bag %v; want %v", what, got, want)
	}
	for _, i := range []int{-1, len(want), math.MinInt, math.MaxInt} {
		l, err := b.At(i)
		wantNoLetter(t, what+": At", l, err)
	}
}

// wantBag: the Data of the letters, in their order.
func wantBag(t *testing.T, what string, b *Bag, want ...string) {
	t.Helper()
	var list []api.Letter
	for _, s := range want {
		list = append(list, note(s))
	}
	wantLetters(t, what, b, list)
}

func wantCounts(t *testing.T, what string, b *Bag, want ...int) {
	t.Helper()
	if c := b.Counts(); !slices.Equal(c[:], want) {
		t.Errorf("%s: Counts %v; want %v", what, c, want)
	}
}
