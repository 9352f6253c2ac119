package dotset

import (
	"iter"
	"slices"
	"testing"
	"time"

	"rookery/api"
)

func wantDots(t *testing.T, what string, it iter.Seq[api.Dot], want ...api.Dot) {
	t.Helper()
	if got := slices.Collect(it); !slices.Equal(got, want) {
		t.Errorf("%s: %v; want %v", what, got, want)
	}
}

func TestP309Missing(t *testing.T) {
	for _, c := range []struct {
		a, b []api.Span
		want []api.Dot
	}{
		{nil, nil, nil}, {nil, eight(), nil}, {eight(), eight(), nil}, {set(sp(0, 2)), set(sp(0, 2)), nil}, {set(sp(0, 2)), set(sp(0, 3)), nil},
		{set(sp(0, 2)), nil, []api.Dot{dot(0, 1), dot(0, 2)}}, {set(sp(0, 1)), set(sp(1, 1)), []api.Dot{dot(0, 1)}},
		{set(sp(0, 3, 5)), set(sp(0, 1, 3)), []api.Dot{dot(0, 2), dot(0, 5)}}, {set(sp(0, 3, 5, 7)), set(sp(0, 1, 3, 5)), []api.Dot{dot(0, 2), dot(0, 7)}}, {set(sp(0, 1, 3, 5)), set(sp(0, 3)), []api.Dot{dot(0, 5)}}, {set(sp(0, 1, 3, 5)), set(sp(0, 5)), nil}, {set(sp(0, 1, 3, 5)), set(sp(0, 4, 6)), []api.Dot{dot(0, 5)}},
		{set(sp(1, 1), sp(3, 0, 2), sp(7, 2)), set(sp(0, 4), sp(3, 1), sp(7, 0, 2)), []api.Dot{dot(1, 1), dot(3, 2), dot(7, 1)}},
		{set(sp(0, 0, 2, 64)), set(sp(0, 62)), []api.Dot{dot(0, 64)}}, {set(sp(0, 0, 2, 64)), set(sp(0, 64)), nil}, {set(sp(0, 66)), set(sp(0, 0, 64)), append(upTo(0, 63), dot(0, 65), dot(0, 66))},
		{set(sp(1, api.MaxCount)), set(sp(1, api.MaxCount-3, api.MaxCount-1)), []api.Dot{dot(1, api.MaxCount-2), dot(1, api.MaxCount)}}, {set(sp(1, api.MaxCount-2, api.MaxCount)), set(sp(1, api.MaxCount-2)), []api.Dot{dot(1, api.MaxCount)}},
	} {
		it := Missing(c.a, c.b)
		wantDots(t, "Missing", it, c.want...)
		wantDots(t, "Missing, gone through again", it, c.want...)
	}
}

// upTo: the dots of a node from 1 to a count.
func upTo(node, count int) []api.Dot {
	var dots []api.Dot
	for c := 1; c <= count; c++ {
		dots = append(dots, dot(node, c))
	}
	return dots
}

func TestP309NoSets(t *testing.T) {
	for _, s := range noSets() {
		wantDots(t, "Missing(no set, nothing)", Missing(s, nil))
		wantDots(t, "Missing(no set, no set)", Missing(s, s))
		wantDots(t, "Missing(nothing, no set)", Missing(nil, s))
		for node := range 3 {
			wantDots(t, "Missing(a set, no set)", Missing(set(sp(node, 2)), s), dot(node, 1), dot(node, 2))
		}
	}
}

// TestP309Stops: behind each number of dots, in a base, among bits and between nodes: nothing more is told.
func TestP309Stops(t *testing.T) {
	a, b := set(sp(0, 3, 5, 7), sp(2, 0, 2, 3), sp(4, 2)), set(sp(0, 1))
	all := slices.Collect(Missing(a, b))
	if len(all) != 8 {
		t.Fatalf("%v", all)
	}
	it := Missing(a, b)
	for n := range all {
		var got []api.Dot
		it(func(d api.Dot) bool {
			got = append(got, d)
			return len(got) <= n
		})
		if !slices.Equal(got, all[:n+1]) {
			t.Errorf("stopped at %d: %v", n+1, got)
		}
	}
	wantDots(t, "Missing behind the stops", it, all...)
}

// TestP309SideBySide: one iterator, gone through twice at a time, and from within itself.
func TestP309SideBySide(t *testing.T) {
	want := []api.Dot{dot(0, 1), dot(0, 3), dot(2, 1)}
	it := Missing(set(sp(0, 1, 3), sp(2, 1)), nil)
	next, stop := iter.Pull(it)
	defer stop()
	for i, d := range want {
		wantDots(t, "Missing beside another", it, want...)
		if got, ok := next(); !ok || got != d {
			t.Errorf("dot %d: %v, %v", i, got, ok)
		}
	}
	for range it {
		wantDots(t, "Missing within itself", it, want...)
	}
}

func TestP309AsTheyWere(t *testing.T) {
	a, b := set(sp(0, 3), sp(1, 2)), set(sp(0, 1), sp(1, 1))
	it := Missing(a, b)
	a[0], a[1], b[0], b[1] = sp(0, 1), sp(9, 9), sp(0, 2), sp(1, 2)
	want := []api.Dot{dot(0, 2), dot(0, 3), dot(1, 2)}
	wantDots(t, "lists that were changed since", it, want...)

	a, b = set(sp(0, 3), sp(1, 2)), set(sp(0, 1), sp(1, 1))
	var got []api.Dot
	for d := range Missing(a, b) {
		got = append(got, d)
		a[1], b[0], b[1] = sp(1, 9), sp(0, 9), sp(1, 9)
	}
	if !slices.Equal(got, want) {
		t.Errorf("lists that change while they are gone through: %v; want %v", got, want)
	}

	a = set(sp(9, 9))
	it = Missing(a, nil)
	a[0] = sp(1, 1)
	wantDots(t, "a list that became a set since", it)
}

// TestP309FarBases: what both have up to the lesser base is not gone over one by one.
func TestP309FarBases(t *testing.T) {
	const rounds = 2000 // one by one this would be some 10^9 counts, and take seconds
	a, b := set(sp(0, api.MaxCount-1), sp(1, api.MaxCount-5)), set(sp(0, api.MaxCount-2), sp(1, api.MaxCount))
	start := time.Now()
	for range rounds {
		wantDots(t, "Missing", Missing(a, b), dot(0, api.MaxCount-1))
	}
	if took := time.Since(start); took > time.Second {
		t.Errorf("%d rounds took %v", rounds, took)
	}
}
