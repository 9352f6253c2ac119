package store

import (
	"math"
	"slices"
	"strings"
	"testing"

	"rookery/api"
)

// seen: a store of node 2 with something of everything.
func seen(t *testing.T) *Store {
	t.Helper()
	s, d := fresh(t, five(), 2)
	wantDone(t, s, d, take(1, spans(sp(0, 3), sp(1, 9), sp(4, 0, 2)), of("j", wr(0, 2)), wr(0, 3), of("a", wr(1, 1)), wr(1, 2), of("a", wr(1, 9)), of("a", wr(4, 2))), 6, 17)
	wantDone(t, s, d, merge(of("p", wr(0, 3, sp(4, 2)))), true, 9)
	for _, c := range []change{keep(3, of("h", wr(0, 2))), keep(1, of("h", wr(3, 1))), keep(1, of("h", wr(0, 10))), keep(1, of("b", wr(4, 9)))} {
		wantDone(t, s, d, c, true, 5)
	}
	return s
}

func TestP910Read(t *testing.T) {
	s := seen(t)
	wantWrites(t, "Read of a", s.Read("a"), of("a", wr(1, 1)), of("a", wr(1, 9)), of("a", wr(4, 2)))
	wantWrites(t, "Read of k", s.Read("k"), wr(0, 3), wr(1, 2))
	wantWrites(t, "Read of p", s.Read("p"), of("p", wr(0, 3, sp(4, 2))))
	for _, key := range []string{"", "d", "h", "b", "A", "aa", "\x00", strings.Repeat("a", 1000)} {
		wantWrites(t, "Read of none", s.Read(key))
	}
}

func TestP910Held(t *testing.T) {
	s := seen(t)
	wantWrites(t, "Held for 1 of h", s.Held(1, "h"), of("h", wr(0, 10)), of("h", wr(3, 1)))
	wantWrites(t, "Held for 3 of h", s.Held(3, "h"), of("h", wr(0, 2)))
	wantWrites(t, "Held for 1 of b", s.Held(1, "b"), of("b", wr(4, 9)))
	wantWrites(t, "Held for 3 of b", s.Held(3, "b"))
	for _, owner := range []int{-1, 0, 2, 4, 5, math.MaxInt, math.MinInt} {
		wantWrites(t, "Held for another", s.Held(owner, "h"))
	}
	wantWrites(t, "Held of a sibling", s.Held(1, "a"))
	wantWrites(t, "Held of no key", s.Held(1, ""))
}

func TestP910Clock(t *testing.T) {
	s := seen(t)
	wantClock(t, "Clock", s, 1, sp(0, 3), sp(1, 9), sp(4, 0, 2))
	wantClock(t, "Clock", s, 2, sp(0, 0, 3))
	for _, rng := range []int{0, 3, 4, 15, 16, -1, math.MaxInt, math.MinInt} {
		wantClock(t, "none, or not mine", s, rng)
	}
}

func TestP910See(t *testing.T) {
	s := seen(t)
	want := state(1, clocks(cl(1, sp(0, 3), sp(1, 9), sp(4, 0, 2)), cl(2, sp(0, 0, 3))),
		hints(hint(1, of("b", wr(4, 9))), hint(1, of("h", wr(0, 10))), hint(1, of("h", wr(3, 1))), hint(3, of("h", wr(0, 2)))),
		list(of("a", wr(1, 1)), of("a", wr(1, 9)), of("a", wr(4, 2))), list(of("j", wr(0, 2))), list(wr(0, 3), wr(1, 2)), list(of("p", wr(0, 3, sp(4, 2)))))
	wantState(t, "See", s, want)
	wantState(t, "See again", s, want)
}

// TestP910SeeClocks: of each range that prefers the node, rising, also those without dots.
func TestP910SeeClocks(t *testing.T) {
	for me, want := range [][]api.Clock{clocks(cl(2)), clocks(cl(0), cl(3)), clocks(cl(1), cl(2)), clocks(cl(0), cl(3)), clocks(cl(1))} {
		s, _ := fresh(t, five(), me)
		wantState(t, "a new store", s, state(1, want, nil))
	}
	alone := five()
	alone.Nodes, alone.Prefer = 1, 1
	s, _ := fresh(t, alone, 0)
	wantState(t, "one node", s, state(1, clocks(cl(0), cl(1), cl(2), cl(3)), nil))
	s, _ = fresh(t, three(), 0)
	wantState(t, "a node that no range prefers", s, state(1, nil, nil))
}

// TestP910KeysRise: as Go compares strings.
func TestP910KeysRise(t *testing.T) {
	c := widest()
	c.Nodes, c.Prefer = 1, 1
	s, _ := fresh(t, c, 0)
	keys := []string{"b", "a", "\xff", "aa", "\x00", "a\x00", "B", "é", "z", " ", "ab", "a\xff", "\x00\x00", "0"}
	for _, key := range keys {
		if _, err := s.Mint(key, false, nil, nil); err != api.OK {
			t.Fatalf("Mint of %q: %d", key, err)
		}
	}
	var got []string
	for _, l := range s.See().Keys {
		got = append(got, l[0].Key)
	}
	slices.Sort(keys)
	if !slices.Equal(got, keys) {
		t.Errorf("the keys are %q; want %q", got, keys)
	}
}

func TestP910Missing(t *testing.T) {
	s := seen(t)
	all := list(of("j", wr(0, 2)), wr(0, 3), of("a", wr(1, 1)), wr(1, 2), of("a", wr(1, 9)), of("a", wr(4, 2)))
	p := of("p", wr(0, 3, sp(4, 2)))
	rows := []struct {
		c    api.Clock
		want []api.Write
	}{
		{cl(1), all}, {cl(1, sp(0, 2)), all[1:]}, {cl(1, sp(0, 0, 3)), slices.Delete(slices.Clone(all), 1, 2)}, {cl(1, sp(0, 3), sp(1, 9), sp(4, 0, 2)), nil}, {cl(1, sp(1, 1, 9)), list(all[0], all[1], all[3], all[5])}, {cl(1, sp(0, 100), sp(1, 100), sp(2, 1), sp(7, 100)), all[5:]},
		// lists that are no set have no dots
		{cl(1, sp(4, 2), sp(0, 2)), all}, {cl(1, sp(0, 3), sp(0, 3)), all}, {cl(1, sp(0, 3), sp(8, 1)), all}, {cl(1, sp(0, 3), api.Span{Node: 1}), all}, {cl(1, api.Span{Node: 0, Base: 3, Bits: 1}), all}, {cl(1, sp(0, api.MaxCount+1)), all},
		// a set for a greater gap, of nodes that there are not, above Count, is a set
		{cl(1, sp(1, 0, 64, 9), sp(7, api.MaxCount)), list(all[0], all[1], all[2], all[3], all[5])},
		{cl(2), list(p)}, {cl(2, sp(0, 0, 3)), nil}, {cl(2, sp(0, 2)), list(p)}, {cl(0), nil}, {cl(3), nil}, {cl(4), nil}, {cl(-1), nil}, {cl(math.MaxInt, sp(0, 1)), nil},
	}
	var in []api.Clock
	for _, row := range rows {
		in = append(in, row.c)
		m := s.Missing(clocks(row.c))
		if len(m) != 1 {
			t.Fatalf("Missing of one clock: %d lists", len(m))
		}
		wantWrites(t, "Missing alone", m[0], row.want...)
	}
	for range 20 {
		m := s.Missing(in)
		if len(m) != len(rows) {
			t.Fatalf("Missing: %d lists; want %d", len(m), len(rows))
		}
		for i, row := range rows {
			wantWrites(t, "Missing among others", m[i], row.want...)
		}
	}
	if m := s.Missing(nil); len(m) != 0 {
		t.Errorf("Missing of none: %v", m)
	}
}

// TestP910Hints: what is kept for others is none of Missing's.
func TestP910Hints(t *testing.T) {
	s, d := fresh(t, five(), 2)
	wantDone(t, s, d, keep(1, of("h", wr(0, 10))), true, 5)
	for rng := range 4 {
		wantWrites(t, "Missing", s.Missing(clocks(cl(rng)))[0])
	}
}
