package sibs

import (
	"math"
	"slices"
	"strings"
	"testing"

	"rookery/api"
)

// sp: a span: its node, its base, the counts beyond it.
func sp(node, base int, beyond ...int) api.Span {
	x := api.Span{Node: node, Base: base}
	for _, c := range beyond {
		x.Bits |= 1 << (c - base - 1)
	}
	return x
}

func spans(s ...api.Span) []api.Span { return s }

func dot(node, count int) api.Dot { return api.Dot{Node: node, Count: count} }

// wr: a write of the key k.
func wr(node, count int, ctx ...api.Span) api.Write {
	return api.Write{Dot: dot(node, count), Key: "k", Value: []byte{byte(node), byte(count)}, Ctx: ctx}
}

// of: the same write, of another key.
func of(key string, w api.Write) api.Write {
	w.Key = key
	return w
}

// with: the same write, with another value.
func with(value []byte, w api.Write) api.Write {
	w.Value = value
	return w
}

// gone: the same write, dead.
func gone(w api.Write) api.Write {
	w.Dead, w.Value = true, nil
	return w
}

func list(l ...api.Write) []api.Write { return l }

func sets(l ...[]api.Write) [][]api.Write { return l }

func bases(l ...[]api.Span) [][]api.Span { return l }

// noSets: lists that are a set for no gap.
func noSets() [][]api.Span {
	return [][]api.Span{
		spans(sp(-1, 1)), spans(sp(8, 1)), spans(sp(0, 1), sp(0, 1)), spans(sp(1, 1), sp(0, 1)), spans(sp(0, 1), sp(1, 0)),
		spans(sp(0, -1)), spans(sp(0, api.MaxCount+1)), spans(sp(0, 1), sp(1, 0, 1)), spans(sp(0, 1), sp(1, api.MaxCount-1, api.MaxCount+1)),
		spans(sp(0, math.MaxInt)), spans(sp(math.MinInt, 1), sp(0, 1)), spans(api.Span{Base: 5, Bits: math.MaxUint64}),
	}
}

// noDots: dots that are none.
func noDots() []api.Dot {
	return []api.Dot{
		dot(-1, 1), dot(8, 1), dot(0, 0), dot(0, -1), dot(7, api.MaxCount+1), dot(0, api.MaxCount+1),
		dot(math.MinInt, 1), dot(math.MaxInt, 1), dot(0, math.MinInt), dot(0, math.MaxInt), {},
	}
}

func wantWrites(t *testing.T, what string, got, want []api.Write) {
	t.Helper()
	if !slices.EqualFunc(got, want, plainSame) {
		t.Errorf("%s: %+v; want %+v", what, got, want)
	}
}

func wantMerge(t *testing.T, set []api.Write, w api.Write, limit int, want []api.Write) {
	t.Helper()
	got, err := Merge(set, w, limit)
	if err != api.OK {
		t.Errorf("Merge(%v, %v, %d): %d", set, w, limit, err)
	}
	wantWrites(t, "Merge", got, want)
}

func wantRefused(t *testing.T, set []api.Write, w api.Write, limit int, want api.Errno) {
	t.Helper()
	if got, err := Merge(set, w, limit); got != nil || err != want {
		t.Errorf("Merge(%v, %v, %d): %v, %d; want nil, %d", set, w, limit, got, err, want)
	}
}

func wantToken(t *testing.T, in [][]api.Write, b [][]api.Span, gap int, token []api.Span, out []api.Write) {
	t.Helper()
	got, left := Token(in, b, gap)
	if !slices.Equal(got, token) {
		t.Errorf("Token(%v, %v, %d): %v; want %v", in, b, gap, got, token)
	}
	wantWrites(t, "left out", left, out)
}

func TestP501Covers(t *testing.T) {
	for _, c := range []struct {
		t, w api.Write
		want bool
	}{
		{wr(1, 1, sp(0, 1)), wr(0, 1), true}, {wr(0, 1), wr(1, 1, sp(0, 1)), false}, {wr(1, 1), wr(0, 1), false},
		{wr(1, 1, sp(0, 3)), wr(0, 3), true}, {wr(1, 1, sp(0, 3)), wr(0, 4), false}, {wr(1, 1, sp(0, 3, 5)), wr(0, 5), true},
		{wr(1, 1, sp(0, 3, 5)), wr(1, 3), false}, {wr(1, 1, sp(0, 3, 5), sp(7, 0, 64)), wr(7, 64), true},
		{wr(1, 1, sp(7, api.MaxCount)), wr(7, api.MaxCount), true},
		{wr(0, 1, sp(1, 1)), wr(1, 1, sp(0, 1)), true}, {wr(1, 1, sp(0, 1)), wr(0, 1, sp(1, 1)), true}, // each the other
		{wr(0, 1, sp(0, 1)), wr(0, 1, sp(0, 1)), true}, {wr(0, 1), wr(0, 1), false}, // itself
		{wr(1, 1, sp(0, 1)), of("l", wr(0, 1)), false}, {of("l", wr(1, 1, sp(0, 1))), wr(0, 1), false}, {of("l", wr(1, 1, sp(0, 1))), of("l", wr(0, 1)), true},
		{of("", wr(1, 1, sp(0, 1))), of("", wr(0, 1)), true}, {of("K", wr(1, 1, sp(0, 1))), wr(0, 1), false}, {of("kk", wr(1, 1, sp(0, 1))), wr(0, 1), false},
		{gone(wr(1, 1, sp(0, 1))), wr(0, 1), true}, {wr(1, 1, sp(0, 1)), gone(wr(0, 1)), true},
	} {
		if got := Covers(c.t, c.w); got != c.want {
			t.Errorf("Covers(%v, %v): %v", c.t, c.w, got)
		}
	}
}

func TestP501NoSetNoDot(t *testing.T) {
	for _, s := range noSets() {
		for node := range api.MaxNodes {
			if Covers(wr(3, 9, s...), wr(node, 1)) {
				t.Errorf("%v, which is no set, has (%d, 1)", s, node)
			}
		}
	}
	all := spans(sp(0, api.MaxCount), sp(1, 9), sp(7, api.MaxCount))
	for _, d := range noDots() {
		if w := wr(0, 1); Covers(wr(1, 1, all...), api.Write{Dot: d, Key: w.Key}) {
			t.Errorf("%v, which is no dot, is covered", d)
		}
	}
}

func TestP502Same(t *testing.T) {
	a := wr(1, 2, sp(0, 3, 5), sp(2, 1))
	for _, b := range []api.Write{
		wr(1, 2, sp(0, 3, 5), sp(2, 1)),
		{Dot: a.Dot, Key: "k", Value: append(make([]byte, 0, 9), 1, 2), Ctx: append(make([]api.Span, 0, 9), a.Ctx...)},
	} {
		if !Same(a, b) || !Same(b, a) {
			t.Errorf("%v and %v are not the same", a, b)
		}
	}
	for _, b := range []api.Write{
		wr(0, 2, a.Ctx...), wr(1, 3, a.Ctx...), of("l", a), of("", a), of("kk", a),
		{Dot: a.Dot, Key: a.Key, Dead: true, Value: a.Value, Ctx: a.Ctx},
		with(nil, a), with([]byte{1}, a), with([]byte{1, 2, 0}, a), with([]byte{2, 1}, a), with([]byte{1, 3}, a),
		with(a.Value, wr(1, 2)), with(a.Value, wr(1, 2, sp(0, 3, 5))), with(a.Value, wr(1, 2, sp(2, 1), sp(0, 3, 5))),
		with(a.Value, wr(1, 2, sp(0, 3), sp(2, 1))), with(a.Value, wr(1, 2, sp(0, 3, 5), sp(2, 2))), with(a.Value, wr(1, 2, sp(0, 3, 5), sp(3, 1))),
		with(a.Value, wr(1, 2, sp(0, 3, 5), sp(2, 1), sp(3, 1))),
	} {
		b = with(slices.Clone(b.Value), b)
		if b.Dot != a.Dot {
			b.Value = a.Value
		}
		if Same(a, b) || Same(b, a) {
			t.Errorf("%v and %v are the same", a, b)
		}
	}
}

func TestP502NothingIsNothing(t *testing.T) {
	a := api.Write{Dot: dot(0, 1), Key: "k"}
	b := api.Write{Dot: dot(0, 1), Key: "k", Value: []byte{}, Ctx: []api.Span{}}
	if !Same(a, b) || !Same(b, a) || !Same(api.Write{}, api.Write{}) {
		t.Error("nil and an empty list are not the same")
	}
	// as they stand, whether the lists are sets or not
	for _, s := range noSets() {
		if !Same(wr(0, 1, s...), wr(0, 1, slices.Clone(s)...)) || Same(wr(0, 1, s...), wr(0, 1)) {
			t.Errorf("the context %v", s)
		}
	}
}

func TestP503Gaps(t *testing.T) {
	for gap := -2; gap <= api.MaxGap+2; gap++ {
		right := gap >= 1 && gap <= api.MaxGap
		for _, set := range [][]api.Write{nil, {}, list(wr(0, 1)), list(wr(0, 1), wr(1, 1))} {
			if Valid(set, gap) != right {
				t.Errorf("Valid(%v, %d): %v", set, gap, !right)
			}
		}
		if set := list(wr(0, 9, sp(1, 5, 7, 9))); Valid(set, gap) != (right && gap >= 4) {
			t.Errorf("Valid(%v, %d): %v", set, gap, !right)
		}
	}
	if Valid(nil, math.MinInt) || Valid(nil, math.MaxInt) {
		t.Error("a gap at the ends of int")
	}
}

func TestP503OneWrite(t *testing.T) {
	for _, n := range []int{0, 1, api.MaxKey, api.MaxKey + 1, 1000} {
		if w := of(strings.Repeat("k", n), wr(0, 1)); Valid(list(w), 4) != (n >= 1 && n <= api.MaxKey) {
			t.Errorf("a key of %d bytes", n)
		}
	}
	if !Valid(list(of("\x00\xff", wr(0, 1))), 4) || Valid(list(of(strings.Repeat("ä", 9), wr(0, 1))), 4) {
		t.Error("a key is bytes, whichever")
	}
	for _, n := range []int{0, 1, api.MaxValue, api.MaxValue + 1, 1000} {
		w := with(make([]byte, n), wr(0, 1))
		if Valid(list(w), 4) != (n <= api.MaxValue) {
			t.Errorf("a value of %d bytes", n)
		}
		w.Dead = true
		if Valid(list(w), 4) != (n == 0) {
			t.Errorf("a dead write with a value of %d bytes", n)
		}
	}
	for _, d := range noDots() {
		if Valid(list(api.Write{Dot: d, Key: "k"}), 4) {
			t.Errorf("the dot %v", d)
		}
	}
	for _, d := range []api.Dot{dot(0, 1), dot(7, 1), dot(0, api.MaxCount), dot(7, api.MaxCount)} {
		if !Valid(list(api.Write{Dot: d, Key: "k"}), 4) {
			t.Errorf("the dot %v", d)
		}
	}
}

func TestP503OneContext(t *testing.T) {
	for _, s := range noSets() {
		if Valid(list(wr(4, 1, s...)), api.MaxGap) {
			t.Errorf("the context %v", s)
		}
	}
	for _, c := range []struct {
		w    api.Write
		gap  int
		want bool
	}{
		{wr(0, 2, sp(0, 1)), 4, true}, {wr(0, 1, sp(0, 1)), 4, false}, {wr(0, 1, sp(0, 9)), 4, false}, {wr(0, 10, sp(0, 9)), 4, true},
		{wr(0, 2, sp(0, 0, 2)), 4, false}, {wr(0, 1, sp(0, 0, 2)), 4, true}, {wr(0, 3, sp(0, 0, 2)), 4, true}, {wr(0, 3, sp(0, 0, 2)), 1, false}, {wr(0, 3, sp(0, 0, 2)), 2, true},
		{wr(0, 99, sp(0, 1)), 1, true}, // how far its own dot lies beyond is not asked
		{wr(3, 1, sp(0, 1), sp(7, api.MaxCount)), 1, true}, {wr(3, 64, sp(3, 0, 64)), 64, false}, {wr(4, 64, sp(3, 0, 64)), 64, true}, {wr(4, 64, sp(3, 0, 64)), 63, false},
		{gone(wr(0, 2, sp(0, 1))), 4, true}, {gone(wr(0, 1, sp(0, 1))), 4, false},
	} {
		if got := Valid(list(c.w), c.gap); got != c.want {
			t.Errorf("Valid(%v, %d): %v", c.w, c.gap, got)
		}
	}
}

func TestP503SeveralWrites(t *testing.T) {
	for _, c := range []struct {
		set  []api.Write
		want bool
	}{
		{list(wr(0, 1), wr(1, 1)), true}, {list(wr(1, 1), wr(0, 1)), false}, {list(wr(0, 1), wr(0, 1)), false}, {list(wr(0, 2), wr(0, 1)), false}, {list(wr(0, 1), wr(0, 2)), true},
		{list(wr(0, 9), wr(1, 1)), true}, {list(wr(1, 1), wr(0, 9)), false}, {list(wr(0, 1), wr(2, 1), wr(1, 1)), false}, {list(wr(0, 1), wr(1, 1), wr(1, 1)), false},
		{list(wr(0, 1), of("l", wr(1, 1))), false}, {list(of("l", wr(0, 1)), wr(1, 1)), false}, {list(of("l", wr(0, 1)), of("l", wr(1, 1))), true},
		{list(wr(0, 1), wr(1, 1), of("l", wr(2, 1))), false},
		{list(wr(0, 1), wr(1, 1, sp(0, 1))), false}, {list(wr(0, 1, sp(1, 1)), wr(1, 1)), false}, {list(wr(0, 1, sp(1, 1)), wr(1, 1, sp(0, 1))), false},
		{list(wr(0, 1), wr(1, 1), wr(2, 1, sp(0, 1))), false}, {list(wr(0, 1, sp(2, 1)), wr(1, 1), wr(2, 1)), false}, {list(wr(0, 2, sp(0, 1)), wr(1, 1, sp(0, 1))), true},
		{list(wr(0, 1), wr(0, 2, sp(0, 1))), false}, {list(wr(0, 2), wr(0, 3, sp(0, 1))), true}, {list(wr(0, 1, sp(0, 0, 2)), wr(0, 3, sp(2, 4))), true},
		{list(gone(wr(0, 1)), wr(1, 1)), true}, {list(gone(wr(0, 1)), wr(1, 1, sp(0, 1))), false}, {list(wr(0, 1), gone(wr(1, 1, sp(0, 1)))), false},
		{list(wr(0, 1), wr(1, 0)), false}, {list(wr(0, 1), wr(1, 1, sp(2, 0))), false}, {list(wr(0, 1, sp(2, 0)), wr(1, 1)), false},
	} {
		if got := Valid(c.set, 4); got != c.want {
			t.Errorf("Valid(%v, 4): %v", c.set, got)
		}
	}
}

// TestP503HowMany: how many there are is not asked.
func TestP503HowMany(t *testing.T) {
	var set []api.Write
	for node := range api.MaxNodes {
		for count := 1; count <= 2000; count++ {
			set = append(set, wr(node, count))
		}
	}
	if !Valid(set, 1) {
		t.Error("16000 siblings")
	}
	set[len(set)-1].Ctx = spans(sp(0, 1))
	if Valid(set, 1) {
		t.Error("the last one covers the first")
	}
}

func TestP504AnotherKey(t *testing.T) {
	for _, limit := range []int{math.MinInt, -1, 0, 1, 9, math.MaxInt} {
		wantRefused(t, list(wr(0, 1)), of("l", wr(1, 1)), limit, api.ErrKey)
		wantRefused(t, list(wr(0, 1), of("l", wr(1, 1))), wr(2, 1), limit, api.ErrKey)
		wantRefused(t, list(of("l", wr(0, 1)), wr(1, 1)), wr(2, 1), limit, api.ErrKey)
		// ahead of the dot that is there, and of a cover
		wantRefused(t, list(wr(0, 1)), of("l", wr(0, 1)), limit, api.ErrKey)
		wantRefused(t, list(wr(0, 1), of("l", wr(1, 1))), wr(0, 1), limit, api.ErrKey)
		wantRefused(t, list(wr(0, 1)), of("l", wr(1, 1, sp(0, 1))), limit, api.ErrKey)
		wantRefused(t, list(of("", wr(0, 1))), wr(1, 1), limit, api.ErrKey)
	}
	wantMerge(t, list(of("", wr(0, 1))), of("", wr(1, 1)), 2, list(of("", wr(0, 1)), of("", wr(1, 1))))
}

func TestP504ItsDotIsThere(t *testing.T) {
	for _, limit := range []int{math.MinInt, -5, 0, 1, 9, math.MaxInt} {
		for _, set := range [][]api.Write{
			list(wr(1, 1, sp(0, 1))), list(wr(0, 1), wr(1, 1), wr(2, 1)), list(wr(2, 1), wr(1, 1), wr(0, 1), wr(1, 1, sp(0, 1))),
			list(wr(0, 1), gone(wr(1, 1, sp(0, 1)))), list(wr(1, 1, sp(1, 1))),
		} {
			wantMerge(t, set, wr(1, 1), limit, set)
			wantMerge(t, set, with([]byte("other"), wr(1, 1, sp(0, 9), sp(2, 9))), limit, set)
			wantMerge(t, set, gone(wr(1, 1, sp(3, 0))), limit, set)
		}
		none := api.Write{Dot: dot(-3, math.MinInt), Key: "k"}
		wantMerge(t, list(wr(0, 1), none), with([]byte("v"), none), limit, list(wr(0, 1), none))
	}
}

func TestP504WhatIsCovered(t *testing.T) {
	wantMerge(t, list(wr(0, 1), wr(1, 1), wr(2, 1)), wr(3, 1, sp(0, 1), sp(2, 1)), 9, list(wr(1, 1), wr(3, 1, sp(0, 1), sp(2, 1))))
	wantMerge(t, list(wr(0, 1), wr(0, 2)), wr(1, 1, sp(0, 2)), 1, list(wr(1, 1, sp(0, 2))))
	wantMerge(t, list(wr(0, 1), wr(0, 2)), wr(1, 1, sp(0, 0, 2)), 2, list(wr(0, 1), wr(1, 1, sp(0, 0, 2))))
	wantMerge(t, list(wr(0, 1), wr(2, 1, sp(1, 1)), wr(3, 1)), wr(1, 1), 3, list(wr(0, 1), wr(2, 1, sp(1, 1)), wr(3, 1)))
	// what w covers goes even where another one covers w
	wantMerge(t, list(wr(0, 1), wr(2, 1, sp(1, 1))), wr(1, 1, sp(0, 1)), 1, list(wr(2, 1, sp(1, 1))))
	// a cover that w covers itself counts no more
	wantMerge(t, list(wr(0, 1, sp(1, 1)), wr(2, 1)), wr(1, 1, sp(0, 1)), 9, list(wr(1, 1, sp(0, 1)), wr(2, 1)))
	// only w covers and is covered: the set's own writes stay as they are
	wantMerge(t, list(wr(0, 1), wr(1, 1, sp(0, 1))), wr(2, 1), 9, list(wr(0, 1), wr(1, 1, sp(0, 1)), wr(2, 1)))
	// a write that has its own dot doesn't cover itself away
	wantMerge(t, nil, wr(0, 1, sp(0, 1)), 1, list(wr(0, 1, sp(0, 1))))
	wantMerge(t, list(wr(1, 1)), wr(0, 1, sp(0, 1)), 2, list(wr(0, 1, sp(0, 1)), wr(1, 1)))
	wantMerge(t, list(wr(0, 1)), gone(wr(1, 1, sp(0, 1))), 1, list(gone(wr(1, 1, sp(0, 1)))))
	for _, s := range noSets() {
		wantMerge(t, list(wr(0, 1), wr(2, 1)), wr(1, 1, s...), 3, list(wr(0, 1), wr(1, 1, s...), wr(2, 1)))
		wantMerge(t, list(wr(1, 1, s...)), wr(0, 1), 3, list(wr(0, 1), wr(1, 1, s...)))
	}
}

func TestP504ItsPlace(t *testing.T) {
	wantMerge(t, list(wr(1, 5), wr(2, 2)), wr(0, 9), 9, list(wr(0, 9), wr(1, 5), wr(2, 2)))
	wantMerge(t, list(wr(1, 5), wr(2, 2)), wr(1, 6), 9, list(wr(1, 5), wr(1, 6), wr(2, 2)))
	wantMerge(t, list(wr(1, 5), wr(2, 2)), wr(1, 4), 9, list(wr(1, 4), wr(1, 5), wr(2, 2)))
	wantMerge(t, list(wr(1, 5), wr(2, 2)), wr(3, 1), 9, list(wr(1, 5), wr(2, 2), wr(3, 1)))
	// lists out of order: ahead of the first that is above it
	wantMerge(t, list(wr(3, 1), wr(0, 9)), wr(1, 5), 9, list(wr(1, 5), wr(3, 1), wr(0, 9)))
	wantMerge(t, list(wr(0, 9), wr(3, 1), wr(0, 1), wr(4, 1)), wr(1, 5), 9, list(wr(0, 9), wr(1, 5), wr(3, 1), wr(0, 1), wr(4, 1)))
	wantMerge(t, list(wr(3, 1), wr(3, 1), wr(2, 1)), wr(2, 9), 9, list(wr(2, 9), wr(3, 1), wr(3, 1), wr(2, 1)))
	// the first of those that are left: the covered one ahead is gone
	wantMerge(t, list(wr(3, 1), wr(0, 9), wr(2, 1)), wr(1, 5, sp(3, 1)), 9, list(wr(0, 9), wr(1, 5, sp(3, 1)), wr(2, 1)))
	low, high := api.Write{Dot: dot(-1, math.MaxInt), Key: "k"}, api.Write{Dot: dot(math.MaxInt, math.MinInt), Key: "k"}
	wantMerge(t, list(low, wr(0, 1), high), wr(1, 1), 9, list(low, wr(0, 1), wr(1, 1), high))
	wantMerge(t, list(wr(0, 1)), low, 9, list(low, wr(0, 1)))
	wantMerge(t, list(wr(0, 1)), high, 9, list(wr(0, 1), high))
	wantMerge(t, list(api.Write{Dot: dot(math.MinInt, 1), Key: "k"}), high, 9, list(api.Write{Dot: dot(math.MinInt, 1), Key: "k"}, high))
}

func TestP504Limit(t *testing.T) {
	three := list(wr(0, 1), wr(1, 1), wr(2, 1))
	for limit := -3; limit <= 6; limit++ {
		for _, c := range []struct {
			w    api.Write
			want []api.Write
		}{
			{wr(3, 1), list(wr(0, 1), wr(1, 1), wr(2, 1), wr(3, 1))},
			{wr(3, 1, sp(0, 1)), list(wr(1, 1), wr(2, 1), wr(3, 1, sp(0, 1)))},
			{wr(3, 1, sp(0, 1), sp(1, 1), sp(2, 1)), list(wr(3, 1, sp(0, 1), sp(1, 1), sp(2, 1)))},
		} {
			if len(c.want) <= limit {
				wantMerge(t, three, c.w, limit, c.want)
			} else {
				wantRefused(t, three, c.w, limit, api.ErrSiblings)
			}
		}
		// a write that is covered adds none: but there may be too many all the same
		full := list(wr(0, 1), wr(1, 1), wr(2, 1, sp(3, 1)))
		if limit >= 3 {
			wantMerge(t, full, wr(3, 1), limit, full)
		} else {
			wantRefused(t, full, wr(3, 1), limit, api.ErrSiblings)
		}
	}
	wantRefused(t, nil, wr(0, 1), 0, api.ErrSiblings)
	wantRefused(t, nil, wr(0, 1), math.MinInt, api.ErrSiblings)
	wantMerge(t, three, wr(3, 1), math.MaxInt, list(wr(0, 1), wr(1, 1), wr(2, 1), wr(3, 1)))
	wantMerge(t, nil, wr(0, 1), 1, list(wr(0, 1)))
	wantMerge(t, list(), wr(0, 1), 1, list(wr(0, 1)))
}

func TestP505Gather(t *testing.T) {
	for _, c := range []struct {
		sets [][]api.Write
		want []api.Write
	}{
		{nil, nil}, {sets(nil), nil}, {sets(nil, nil), nil}, {sets(list(), nil, list()), nil},
		{sets(list(wr(0, 1))), list(wr(0, 1))}, {sets(list(wr(0, 1)), list(wr(0, 1)), list(wr(0, 1))), list(wr(0, 1))},
		{sets(list(wr(2, 1)), list(wr(1, 9)), list(wr(0, 4), wr(1, 8))), list(wr(0, 4), wr(1, 8), wr(1, 9), wr(2, 1))},
		{sets(list(wr(2, 1), wr(0, 1)), list(wr(1, 1, sp(0, 1)), wr(2, 1))), list(wr(1, 1, sp(0, 1)), wr(2, 1))},
		{sets(list(wr(1, 1, sp(0, 1))), list(wr(0, 1))), list(wr(1, 1, sp(0, 1)))},
		{sets(list(wr(0, 1)), list(wr(1, 1, sp(0, 1)))), list(wr(1, 1, sp(0, 1)))},
		{sets(list(wr(0, 1), wr(1, 1), wr(2, 1)), list(wr(1, 2, sp(0, 1), sp(2, 1)))), list(wr(1, 1), wr(1, 2, sp(0, 1), sp(2, 1)))},
		// what is covered covers all the same
		{sets(list(wr(0, 1)), list(wr(1, 1, sp(0, 1))), list(wr(2, 1, sp(1, 1)))), list(wr(2, 1, sp(1, 1)))},
		{sets(list(wr(0, 1, sp(1, 1)), wr(1, 1, sp(0, 1)))), nil},
		{sets(list(wr(0, 1, sp(1, 1)), wr(1, 1, sp(2, 1)), wr(2, 1, sp(0, 1))), list(wr(3, 1))), list(wr(3, 1))},
		{sets(list(gone(wr(0, 1)), wr(1, 1))), list(gone(wr(0, 1)), wr(1, 1))},
		{sets(list(gone(wr(1, 1, sp(0, 1)))), list(wr(0, 1))), list(gone(wr(1, 1, sp(0, 1))))},
		// of others alone: itself is none
		{sets(list(wr(0, 1, sp(0, 1)))), list(wr(0, 1, sp(0, 1)))},
		{sets(list(wr(0, 1, sp(0, 1)), wr(1, 1, sp(1, 1)))), list(wr(0, 1, sp(0, 1)), wr(1, 1, sp(1, 1)))},
		{sets(list(wr(0, 1, sp(0, 1)), wr(1, 1, sp(0, 1)))), list(wr(1, 1, sp(0, 1)))},
		{sets(list(wr(1, 1, sp(1, 1)), wr(0, 1, sp(1, 1)))), list(wr(0, 1, sp(1, 1)))},
	} {
		wantWrites(t, "Gather", Gather(c.sets...), c.want)
	}
}

func TestP505OneKey(t *testing.T) {
	wantWrites(t, "the first gives the key", Gather(nil, list(of("l", wr(3, 1)), wr(0, 1)), list(wr(1, 1), of("l", wr(2, 1)))), list(of("l", wr(2, 1)), of("l", wr(3, 1))))
	wantWrites(t, "another key's dot is not met", Gather(list(wr(1, 1), of("l", wr(0, 1))), list(wr(0, 1))), list(wr(0, 1), wr(1, 1)))
	wantWrites(t, "another key covers nothing", Gather(list(wr(0, 1)), list(of("l", wr(1, 1, sp(0, 1))))), list(wr(0, 1)))
	wantWrites(t, "another key is covered by nothing", Gather(list(of("l", wr(0, 1))), list(wr(1, 1, sp(0, 1)))), list(of("l", wr(0, 1))))
	wantWrites(t, "no key is a key", Gather(list(of("", wr(0, 1))), list(wr(1, 1)), list(of("", wr(2, 1)))), list(of("", wr(0, 1)), of("", wr(2, 1))))
}

func TestP505OneDotTwice(t *testing.T) {
	first := with([]byte("first"), wr(0, 1, sp(1, 1)))
	wantWrites(t, "the first is met", Gather(list(first), list(wr(0, 1), wr(1, 1))), list(first))
	wantWrites(t, "the first is met", Gather(list(wr(0, 1)), list(first, wr(1, 1))), list(wr(0, 1), wr(1, 1)))
	wantWrites(t, "in one set", Gather(list(wr(3, 1), wr(0, 1), first, wr(1, 1))), list(wr(0, 1), wr(1, 1), wr(3, 1)))
	wantWrites(t, "what is passed over covers nothing", Gather(list(wr(0, 1)), list(wr(0, 1, sp(3, 3)), wr(3, 3))), list(wr(0, 1), wr(3, 3)))
	wantWrites(t, "many alike", Gather(slices.Repeat(list(wr(1, 1), with(nil, wr(1, 1)), wr(0, 1)), 40)), list(wr(0, 1), wr(1, 1)))
}

func TestP505NoDotsNoSets(t *testing.T) {
	var in, want []api.Write
	for _, d := range noDots() {
		in = append(in, api.Write{Dot: d, Key: "k"}, api.Write{Dot: d, Key: "k", Dead: true})
	}
	for _, d := range []api.Dot{
		dot(math.MinInt, 1), dot(-1, 1), dot(0, math.MinInt), dot(0, -1), dot(0, 0), dot(0, api.MaxCount+1), dot(0, math.MaxInt),
		dot(7, api.MaxCount+1), dot(8, 1), dot(math.MaxInt, 1),
	} {
		want = append(want, api.Write{Dot: d, Key: "k"})
	}
	wantWrites(t, "dots that are none", Gather(in), want)
	for _, s := range noSets() {
		wantWrites(t, "a context that is no set", Gather(list(wr(0, 1), wr(1, 1), wr(5, 1, s...))), list(wr(0, 1), wr(1, 1), wr(5, 1, s...)))
		wantWrites(t, "and one that is", Gather(list(wr(0, 1), wr(5, 1, s...), wr(6, 1, sp(0, 1)))), list(wr(5, 1, s...), wr(6, 1, sp(0, 1))))
	}
	wide := wr(0, 1, sp(1, 0, 64))
	wantWrites(t, "a context is one for MaxGap", Gather(list(wide, wr(1, 64), wr(1, 63))), list(wide, wr(1, 63)))
	wide = wr(2, 1, sp(1, 0, 64))
	wantWrites(t, "a context is one for MaxGap", Gather(list(wide, wr(1, 64), wr(1, 63))), list(wr(1, 63), wide))
}

func TestP506Bases(t *testing.T) {
	wantToken(t, nil, nil, 4, nil, nil)
	wantToken(t, sets(nil, list()), bases(nil, spans()), 4, nil, nil)
	wantToken(t, nil, bases(spans(sp(0, 4)), spans(sp(2, 1)), spans(sp(0, 2), sp(1, 3))), 4, spans(sp(0, 4), sp(1, 3), sp(2, 1)), nil)
	wantToken(t, nil, bases(spans(sp(0, 2, 4)), spans(sp(0, 3))), 4, spans(sp(0, 4)), nil)
	wantToken(t, nil, bases(spans(sp(0, 1, 3)), spans(sp(0, 1, 4))), 3, spans(sp(0, 1, 3, 4)), nil)
	// lists that are no sets for the gap are passed over, whole
	wantToken(t, nil, bases(spans(sp(0, 1, 4)), spans(sp(0, 1, 3), sp(1, 1))), 2, spans(sp(0, 1, 3), sp(1, 1)), nil)
	for _, s := range noSets() {
		wantToken(t, nil, bases(s), 64, nil, nil)
		wantToken(t, nil, bases(spans(sp(2, 1)), s, spans(sp(3, 1))), 64, spans(sp(2, 1), sp(3, 1)), nil)
	}
}

func TestP506Fits(t *testing.T) {
	for _, c := range []struct {
		in    []api.Write
		base  []api.Span
		gap   int
		token []api.Span
		out   []api.Write
	}{
		{list(wr(0, 1)), nil, 1, spans(sp(0, 1)), nil}, {list(wr(0, 2)), nil, 1, nil, list(wr(0, 2))}, {list(wr(0, 2)), nil, 2, spans(sp(0, 0, 2)), nil},
		// just at the gap, and one past it: above nothing, a base of the bases, one of its own context
		{list(wr(1, 4)), nil, 4, spans(sp(1, 0, 4)), nil}, {list(wr(1, 5)), nil, 4, nil, list(wr(1, 5))},
		{list(wr(1, 7)), spans(sp(1, 3)), 4, spans(sp(1, 3, 7)), nil}, {list(wr(1, 8)), spans(sp(1, 3)), 4, spans(sp(1, 3)), list(wr(1, 8))},
		{list(wr(1, 7, sp(1, 3))), nil, 4, spans(sp(1, 3, 7)), nil}, {list(wr(1, 8, sp(1, 3))), nil, 4, nil, list(wr(1, 8, sp(1, 3)))},
		// of the union: 1 to 3 of the base, 4 and 5 of the context
		{list(wr(1, 9, sp(1, 0, 4, 5))), spans(sp(1, 3)), 5, spans(sp(1, 5, 9)), nil}, {list(wr(1, 11, sp(1, 0, 4, 5))), spans(sp(1, 3)), 5, spans(sp(1, 3)), list(wr(1, 11, sp(1, 0, 4, 5)))},
		{list(wr(1, 10, sp(1, 0, 4, 5))), spans(sp(1, 3)), 5, spans(sp(1, 5, 10)), nil},
		// a base of another node is none
		{list(wr(1, 5)), spans(sp(0, 9), sp(2, 9)), 4, spans(sp(0, 9), sp(2, 9)), list(wr(1, 5))},
		// what the base has already
		{list(wr(1, 5)), spans(sp(1, 9)), 4, spans(sp(1, 9)), nil}, {list(wr(1, 5, sp(0, 3))), spans(sp(1, 9)), 4, spans(sp(0, 3), sp(1, 9)), nil},
		// what one brings, the next leans on
		{list(wr(1, 5), wr(0, 1, sp(1, 4))), nil, 4, spans(sp(0, 1), sp(1, 5)), nil}, {list(wr(2, 1, sp(1, 4)), wr(1, 6)), nil, 4, spans(sp(1, 4), sp(2, 1)), list(wr(1, 6))},
		{list(wr(0, 1), wr(0, 2), wr(0, 3)), nil, 1, spans(sp(0, 3)), nil}, {list(wr(0, 3), wr(0, 2), wr(0, 1)), nil, 1, spans(sp(0, 3)), nil},
		{list(wr(0, 1), wr(0, 3)), nil, 1, spans(sp(0, 1)), list(wr(0, 3))},
		// of what is left out nothing comes in, and the next ones don't lean on it
		{list(wr(0, 9, sp(1, 4)), wr(1, 6), wr(2, 1)), nil, 4, spans(sp(2, 1)), list(wr(0, 9, sp(1, 4)), wr(1, 6))},
		// its own dot in its context
		{list(wr(0, 3, sp(0, 3))), nil, 1, spans(sp(0, 3)), nil}, {list(wr(0, 3, sp(0, 1, 3))), nil, 2, spans(sp(0, 1, 3)), nil},
		{list(wr(0, api.MaxCount)), spans(sp(0, api.MaxCount-1)), 1, spans(sp(0, api.MaxCount)), nil},
		{list(wr(0, api.MaxCount)), spans(sp(0, api.MaxCount-64)), 64, spans(sp(0, api.MaxCount-64, api.MaxCount)), nil},
		{list(wr(0, api.MaxCount)), spans(sp(0, api.MaxCount-65)), 64, spans(sp(0, api.MaxCount-65)), list(wr(0, api.MaxCount))},
	} {
		wantToken(t, sets(c.in), bases(c.base), c.gap, c.token, c.out)
	}
}

func TestP506WhateverTheKeys(t *testing.T) {
	wantToken(t, sets(list(of("l", wr(0, 1)), wr(1, 1)), list(of("", wr(2, 1)))), nil, 4, spans(sp(0, 1), sp(1, 1), sp(2, 1)), nil)
	wantToken(t, sets(list(of("l", wr(0, 9)), of("m", wr(0, 9, sp(0, 8))))), nil, 4, nil, list(of("l", wr(0, 9))))
}

func TestP506OneDotTwice(t *testing.T) {
	wantToken(t, sets(list(wr(1, 5)), list(wr(1, 5, sp(1, 4)))), nil, 4, nil, list(wr(1, 5)))
	wantToken(t, sets(list(wr(1, 5, sp(1, 4))), list(wr(1, 5))), nil, 4, spans(sp(1, 5)), nil)
	wantToken(t, sets(list(wr(2, 1), wr(1, 5, sp(1, 4)), wr(1, 5, sp(3, 1)))), nil, 4, spans(sp(1, 5), sp(2, 1)), nil)
	wantToken(t, sets(list(wr(2, 9), wr(1, 9)), list(with(nil, wr(2, 9)), wr(0, 9), wr(1, 9))), nil, 4, nil, list(wr(0, 9), wr(1, 9), wr(2, 9)))
}

func TestP506NoDotsNoSets(t *testing.T) {
	for _, d := range noDots() {
		w := api.Write{Dot: d, Key: "k", Ctx: spans(sp(5, 2))}
		want := list(w, wr(6, 70))
		if d.Node > 6 {
			want = list(wr(6, 70), w)
		}
		wantToken(t, sets(list(wr(6, 70), w, w, wr(2, 1))), bases(spans(sp(3, 1))), 64, spans(sp(2, 1), sp(3, 1)), want)
	}
	for _, s := range noSets() {
		wantToken(t, sets(list(wr(6, 1, s...), wr(2, 1))), nil, 64, spans(sp(2, 1)), list(wr(6, 1, s...)))
	}
	// sets for a greater gap alone
	wide := wr(1, 1, sp(0, 0, 5))
	wantToken(t, sets(list(wide)), nil, 4, nil, list(wide))
	wantToken(t, sets(list(wide)), nil, 5, spans(sp(0, 0, 5), sp(1, 1)), nil)
	wantToken(t, sets(list(wide)), bases(spans(sp(0, 4), sp(1, 9))), 4, spans(sp(0, 4), sp(1, 9)), list(wide))
}

func TestP506Gap(t *testing.T) {
	for _, gap := range []int{math.MinInt, -1, 0, api.MaxGap + 1, math.MaxInt} {
		in := sets(list(wr(2, 1), wr(0, 1)), list(with(nil, wr(2, 1)), wr(1, 1, sp(0, 1)), api.Write{}), nil)
		wantToken(t, in, bases(spans(sp(0, 4))), gap, nil, list(api.Write{}, wr(0, 1), wr(1, 1, sp(0, 1)), wr(2, 1)))
		wantToken(t, nil, bases(spans(sp(0, 4))), gap, nil, nil)
	}
	for _, gap := range []int{1, api.MaxGap} {
		wantToken(t, sets(list(wr(0, 1))), bases(spans(sp(0, 4))), gap, spans(sp(0, 4)), nil)
	}
}
