package dotset

import (
	"math"
	"slices"
	"testing"

	"rookery/api"
)

// sp: a span: its node, its base, the counts beyond it.
func sp(node, base int, beyond ...int) api.Span {
	x := api.Span{Node: node, Base: base}
	for _, c := range beyond {
		x.Bits |= 1 << (c - base - 1)
	}
	return x
}

func set(spans ...api.Span) []api.Span { return spans }

func dot(node, count int) api.Dot { return api.Dot{Node: node, Count: count} }

// noSets: lists that are a set for no gap, each for one reason.
func noSets() [][]api.Span {
	return [][]api.Span{
		set(sp(-1, 1)), set(sp(8, 1)), set(sp(math.MinInt, 1)), set(sp(math.MaxInt, 1)),
		set(sp(1, 3), sp(0, 2)), set(sp(1, 3), sp(1, 4)), set(sp(1, 3), sp(1, 3)), set(sp(0, 1), sp(2, 1), sp(1, 1)),
		set(sp(0, 1), sp(3, 1), sp(8, 1)), set(sp(-1, 1), sp(0, 1)),
		set(api.Span{Base: -1, Bits: 2}), set(sp(0, -1)), set(sp(0, math.MinInt)),
		set(sp(0, api.MaxCount+1)), set(sp(0, math.MaxInt)), set(api.Span{Base: math.MaxInt, Bits: 1 << 63}),
		set(sp(2, 5, 6)), set(sp(2, 0, 1)), set(api.Span{Node: 2, Base: 5, Bits: math.MaxUint64}),
		set(sp(0, api.MaxCount-1, api.MaxCount+1)), set(sp(0, api.MaxCount, api.MaxCount+2)), set(sp(0, api.MaxCount-63, api.MaxCount+1)),
		set(sp(2, 0)), set(sp(0, 0)), set(sp(1, 1), sp(2, 0)), set(sp(0, 0), sp(1, 1)),
		set(sp(0, 1), sp(1, 1), sp(2, 1), sp(3, 1), sp(4, 1), sp(5, 1), sp(6, 1), sp(7, 1), sp(7, 2)),
	}
}

// eight: a set that names every node, at many of the edges.
func eight() []api.Span {
	return set(sp(0, 0, 2), sp(1, 1), sp(2, api.MaxCount), sp(3, api.MaxCount-2, api.MaxCount), sp(4, 0, 64),
		sp(5, api.MaxCount-64, api.MaxCount), sp(6, 7, 9, 70, 71), api.Span{Node: 7, Base: 9, Bits: math.MaxUint64 - 1})
}

func wantSet(t *testing.T, what string, got []api.Span, err api.Errno, want []api.Span) {
	t.Helper()
	if !slices.Equal(got, want) || err != api.OK {
		t.Errorf("%s: %v, %d; want %v, 0", what, got, err, want)
	}
}

func wantErr(t *testing.T, what string, got []api.Span, err, want api.Errno) {
	t.Helper()
	if got != nil || err != want {
		t.Errorf("%s: %v, %d; want nil, %d", what, got, err, want)
	}
}

func TestP301SetsForEachGap(t *testing.T) {
	for _, c := range []struct {
		s     []api.Span
		least int // the least gap that it is a set for
	}{
		{nil, 1}, {set(), 1}, {set(sp(0, 1)), 1}, {set(sp(7, 1)), 1}, {set(sp(0, 3), sp(7, 4)), 1}, {set(sp(0, api.MaxCount)), 1},
		{set(sp(0, 0, 2)), 2}, {set(sp(2, 5, 7, 9)), 4}, {set(sp(2, 5, 7, 68)), 63}, {set(sp(2, 5, 69)), 64},
		{set(sp(0, api.MaxCount-2, api.MaxCount)), 2}, {set(sp(0, api.MaxCount-64, api.MaxCount)), 64}, {set(sp(0, 1), sp(1, 0, 3), sp(2, 0, 2)), 3}, {eight(), 64},
	} {
		for gap := 1; gap <= api.MaxGap; gap++ {
			want := api.OK
			if gap < c.least {
				want = api.ErrSet
			}
			if err := Check(c.s, gap); err != want {
				t.Errorf("Check(%v, %d): %d; want %d", c.s, gap, err, want)
			}
		}
	}
}

func TestP301NoSets(t *testing.T) {
	for _, s := range noSets() {
		for gap := 1; gap <= api.MaxGap; gap++ {
			if err := Check(s, gap); err != api.ErrSet {
				t.Errorf("Check(%v, %d): %d; want ErrSet", s, gap, err)
			}
		}
	}
}

// TestP301TheDots: which dots a set has, as Has and Missing tell them.
func TestP301TheDots(t *testing.T) {
	s := set(sp(0, 2, 4, 66), sp(7, 0, 2, 64))
	want := []api.Dot{dot(0, 1), dot(0, 2), dot(0, 4), dot(0, 66), dot(7, 2), dot(7, 64)}
	if got := slices.Collect(Missing(s, nil)); !slices.Equal(got, want) {
		t.Errorf("dots %v; want %v", got, want)
	}
	for node := -1; node <= 8; node++ {
		for count := -1; count <= 70; count++ {
			if d := dot(node, count); Has(s, d) != slices.Contains(want, d) {
				t.Errorf("Has(%v): %v", d, Has(s, d))
			}
		}
	}
}

// TestP301OneForm: the same dots, in whichever order they came, are the same list.
func TestP301OneForm(t *testing.T) {
	dots := []api.Dot{dot(0, 1), dot(0, 2), dot(0, 4), dot(3, 3), dot(3, 2)}
	want := set(sp(0, 2, 4), sp(3, 0, 2, 3))
	orders := 0
	var play func(s []api.Span, left []api.Dot)
	play = func(s []api.Span, left []api.Dot) {
		if len(left) == 0 {
			wantSet(t, "Add in some order", s, api.OK, want)
			orders++
		}
		for i, d := range left {
			more, err := Add(s, d, 4)
			if err != api.OK {
				t.Fatalf("Add(%v, %v): %d", s, d, err)
			}
			play(more, slices.Delete(slices.Clone(left), i, i+1))
		}
	}
	play(nil, dots)
	if orders != 120 {
		t.Errorf("%d orders", orders)
	}
}

func TestP302Gap(t *testing.T) {
	for _, gap := range []int{math.MinInt, -1, 0, 65, 66, math.MaxInt} {
		for _, s := range append(noSets(), nil, eight()) {
			if err := Check(s, gap); err != api.ErrArg {
				t.Errorf("Check(%v, %d): %d; want ErrArg", s, gap, err)
			}
		}
	}
	for _, gap := range []int{1, 2, 63, 64} {
		if err := Check(nil, gap); err != api.OK {
			t.Errorf("Check(nothing, %d): %d", gap, err)
		}
	}
}

func TestP303Has(t *testing.T) {
	s := eight()
	for _, d := range []api.Dot{dot(0, 2), dot(1, 1), dot(2, 1), dot(2, api.MaxCount), dot(3, 1), dot(3, api.MaxCount-2), dot(3, api.MaxCount), dot(4, 64), dot(5, api.MaxCount-64), dot(5, api.MaxCount), dot(6, 7), dot(6, 9), dot(6, 71), dot(7, 11), dot(7, 73)} {
		if !Has(s, d) {
			t.Errorf("Has(%v): false", d)
		}
	}
	for _, d := range []api.Dot{dot(0, 1), dot(0, 3), dot(1, 2), dot(2, api.MaxCount+1), dot(3, api.MaxCount-1), dot(4, 1), dot(4, 63), dot(4, 65), dot(5, api.MaxCount-63), dot(5, api.MaxCount-1), dot(6, 8), dot(6, 10), dot(6, 72), dot(7, 10), dot(7, 74)} {
		if Has(s, d) {
			t.Errorf("Has(%v): true", d)
		}
	}
}

func TestP303WhatIsNoDot(t *testing.T) {
	for _, node := range []int{math.MinInt, -1, 0, 2, 7, 8, 64, math.MaxInt} {
		for _, count := range []int{math.MinInt, -64, -1, 0, api.MaxCount + 1, 1 << 62, math.MaxInt} {
			if Has(eight(), dot(node, count)) {
				t.Errorf("Has(%d, %d): true", node, count)
			}
		}
		if isNode := node >= 0 && node < 8; !isNode && Has(eight(), dot(node, 1)) {
			t.Errorf("Has(%d, 1): true", node)
		}
	}
	if Has(nil, dot(0, 1)) || Has(set(), dot(7, 1)) {
		t.Error("the empty set has a dot")
	}
}

func TestP303NoSet(t *testing.T) {
	for _, s := range noSets() {
		for _, x := range s {
			for _, d := range []api.Dot{dot(x.Node, 1), dot(x.Node, 2), dot(x.Node, 6), dot(x.Node, x.Base)} {
				if Has(s, d) {
					t.Errorf("Has(%v, %v): true", s, d)
				}
			}
		}
	}
}

func TestP304Errors(t *testing.T) {
	wrong := set(sp(9, 5))
	for _, c := range []struct {
		s    []api.Span
		d    api.Dot
		gap  int
		want api.Errno
	}{
		{nil, dot(0, 1), 0, api.ErrArg}, {nil, dot(0, 1), -1, api.ErrArg}, {nil, dot(0, 1), 65, api.ErrArg}, {nil, dot(0, 1), math.MaxInt, api.ErrArg}, {nil, dot(0, 1), math.MinInt, api.ErrArg},
		{nil, dot(-1, 1), 4, api.ErrArg}, {nil, dot(8, 1), 4, api.ErrArg}, {nil, dot(0, 0), 4, api.ErrArg}, {nil, dot(0, -1), 4, api.ErrArg}, {nil, dot(0, math.MinInt), 4, api.ErrArg}, {nil, dot(0, math.MaxInt), 4, api.ErrArg},
		{set(sp(0, api.MaxCount)), dot(0, api.MaxCount+1), 4, api.ErrArg},
		{wrong, dot(0, 1), 0, api.ErrArg}, {wrong, dot(8, 1), 4, api.ErrArg}, {wrong, dot(0, 100), 4, api.ErrSet}, {wrong, dot(0, 1), 4, api.ErrSet},
		{set(sp(2, 5, 9)), dot(2, 6), 3, api.ErrSet}, {set(sp(2, 5, 9)), dot(1, 1), 3, api.ErrSet}, {set(sp(2, 5, 9)), dot(2, 5), 3, api.ErrSet},
		{nil, dot(0, 2), 1, api.ErrGap}, {nil, dot(0, 65), 64, api.ErrGap}, {nil, dot(0, api.MaxCount), 64, api.ErrGap},
		{set(sp(2, 5, 7)), dot(2, 10), 4, api.ErrGap}, {set(sp(2, 5)), dot(2, 7), 1, api.ErrGap}, {set(sp(2, 5)), dot(3, 5), 4, api.ErrGap}, {set(sp(2, 5)), dot(1, 6), 5, api.ErrGap}, {set(sp(2, 5, 69)), dot(2, 70), 64, api.ErrGap},
	} {
		got, err := Add(c.s, c.d, c.gap)
		wantErr(t, "Add", got, err, c.want)
	}
	for _, s := range noSets() {
		got, err := Add(s, dot(1, 1), 64)
		wantErr(t, "Add to no set", got, err, api.ErrSet)
	}
}

func TestP304Places(t *testing.T) {
	s := set(sp(2, 5, 7), sp(4, 1))
	for _, c := range []struct {
		d    api.Dot
		want []api.Span
	}{
		{dot(0, 1), set(sp(0, 1), sp(2, 5, 7), sp(4, 1))}, {dot(3, 3), set(sp(2, 5, 7), sp(3, 0, 3), sp(4, 1))}, {dot(7, 4), set(sp(2, 5, 7), sp(4, 1), sp(7, 0, 4))},
		{dot(2, 6), set(sp(2, 7), sp(4, 1))}, {dot(2, 8), set(sp(2, 5, 7, 8), sp(4, 1))}, {dot(2, 9), set(sp(2, 5, 7, 9), sp(4, 1))}, {dot(4, 2), set(sp(2, 5, 7), sp(4, 2))}, {dot(4, 5), set(sp(2, 5, 7), sp(4, 1, 5))},
	} {
		got, err := Add(s, c.d, 4)
		wantSet(t, "Add", got, err, c.want)
	}
}

func TestP304KnownAlready(t *testing.T) {
	for _, d := range []api.Dot{dot(0, 2), dot(1, 1), dot(2, 1), dot(2, api.MaxCount), dot(3, api.MaxCount), dot(4, 64), dot(6, 71), dot(7, 73)} {
		s := eight()
		got, err := Add(s, d, 64)
		wantSet(t, "Add", got, err, eight())
		got[0] = sp(0, 99)
		wantSet(t, "the set that was handed in", s, api.OK, eight())
	}
}

func TestP304BaseGoesOn(t *testing.T) {
	full := api.Span{Node: 1, Base: 3, Bits: math.MaxUint64 - 1}
	got, err := Add(set(full), dot(1, 4), 64)
	wantSet(t, "all 64", got, err, set(sp(1, 67)))
	got, err = Add(set(sp(1, 3, 5, 6, 8)), dot(1, 4), 5)
	wantSet(t, "up to the next hole", got, err, set(sp(1, 6, 8)))
	got, err = Add(set(sp(1, 3, 67)), dot(1, 4), 64)
	wantSet(t, "one", got, err, set(sp(1, 4, 67)))
	got, err = Add(set(sp(1, 0, 2, 3)), dot(1, 1), 4)
	wantSet(t, "from nothing", got, err, set(sp(1, 3)))
	got, err = Add(set(sp(0, api.MaxCount-1)), dot(0, api.MaxCount), 1)
	wantSet(t, "to the greatest count", got, err, set(sp(0, api.MaxCount)))
	got, err = Add(set(sp(0, api.MaxCount-2)), dot(0, api.MaxCount), 2)
	wantSet(t, "the greatest count", got, err, set(sp(0, api.MaxCount-2, api.MaxCount)))
}

func TestP304AtTheGap(t *testing.T) {
	for gap := 1; gap <= api.MaxGap; gap++ {
		for _, base := range []int{0, 1, 1000} {
			var s []api.Span
			if base > 0 {
				s = set(sp(3, base))
			}
			want := set(sp(3, base, base+gap))
			if gap == 1 {
				want = set(sp(3, base+1))
			}
			got, err := Add(s, dot(3, base+gap), gap)
			wantSet(t, "Add at the gap", got, err, want)
			got, err = Add(s, dot(3, base+gap+1), gap)
			wantErr(t, "Add beyond the gap", got, err, api.ErrGap)
		}
	}
}

func TestP305Union(t *testing.T) {
	full := api.Span{Node: 1, Base: 3, Bits: math.MaxUint64 - 1}
	for _, c := range []struct {
		a, b []api.Span
		gap  int
		want []api.Span
	}{
		{nil, nil, 1, nil}, {set(), nil, 64, nil}, {nil, set(sp(3, 1)), 1, set(sp(3, 1))}, {eight(), eight(), 64, eight()}, {eight(), nil, 64, eight()},
		{set(sp(0, 1), sp(2, 2), sp(7, 1)), set(sp(1, 0, 2), sp(2, 3), sp(3, 4)), 2, set(sp(0, 1), sp(1, 0, 2), sp(2, 3), sp(3, 4), sp(7, 1))},
		{set(sp(0, 2, 4)), set(sp(0, 3)), 4, set(sp(0, 4))}, {set(sp(0, 1, 3)), set(sp(0, 1, 4)), 3, set(sp(0, 1, 3, 4))}, {set(sp(0, 1, 3)), set(sp(0, 2)), 2, set(sp(0, 3))},
		{set(sp(0, 0, 2, 4, 6)), set(sp(0, 1, 3, 5)), 8, set(sp(0, 6))}, {set(sp(0, 0, 60)), set(sp(0, 100)), 64, set(sp(0, 100))}, {set(sp(0, 0, 64)), set(sp(0, 63)), 64, set(sp(0, 64))},
		{set(sp(0, 0, 64)), set(sp(0, 64)), 64, set(sp(0, 64))}, {set(sp(0, 0, 64)), set(sp(0, 62, 126)), 64, set(sp(0, 62, 64, 126))}, {set(sp(0, 5, 69)), set(sp(0, 6)), 64, set(sp(0, 6, 69))},
		{set(full), set(sp(1, 4)), 64, set(sp(1, 67))}, {set(full), set(sp(1, 68)), 64, set(sp(1, 68))}, {set(full), set(sp(1, 66, 68)), 64, set(sp(1, 68))},
		{set(sp(1, api.MaxCount-2, api.MaxCount)), set(sp(1, api.MaxCount-1)), 2, set(sp(1, api.MaxCount))}, {set(sp(1, 1)), set(sp(1, api.MaxCount)), 1, set(sp(1, api.MaxCount))},
	} {
		got, err := Union(c.a, c.b, c.gap)
		wantSet(t, "Union", got, err, c.want)
		got, err = Union(c.b, c.a, c.gap)
		wantSet(t, "Union the other way round", got, err, c.want)
		if Check(got, c.gap) != api.OK {
			t.Errorf("Union(%v, %v, %d): %v is no set for the gap", c.a, c.b, c.gap, got)
		}
	}
}

func TestP305Errors(t *testing.T) {
	for _, s := range append(noSets(), set(sp(0, 1, 5))) {
		for _, gap := range []int{1, 3} {
			got, err := Union(s, nil, gap)
			wantErr(t, "Union(no set, nothing)", got, err, api.ErrSet)
			got, err = Union(set(sp(4, 1)), s, gap)
			wantErr(t, "Union(a set, no set)", got, err, api.ErrSet)
			got, err = Union(s, s, gap)
			wantErr(t, "Union(no set, no set)", got, err, api.ErrSet)
		}
		for _, gap := range []int{math.MinInt, -1, 0, 65, math.MaxInt} {
			got, err := Union(s, s, gap)
			wantErr(t, "Union of no sets, wrong gap", got, err, api.ErrArg)
			got, err = Union(nil, set(sp(4, 1)), gap)
			wantErr(t, "Union, wrong gap", got, err, api.ErrArg)
		}
	}
}

func TestP306Within(t *testing.T) {
	for _, c := range []struct {
		a, b []api.Span
		want bool
	}{
		{nil, nil, true}, {nil, eight(), true}, {eight(), eight(), true}, {eight(), nil, false},
		{set(sp(0, 2)), set(sp(0, 3)), true}, {set(sp(0, 3)), set(sp(0, 2)), false}, {set(sp(0, 2)), set(sp(0, 2)), true}, {set(sp(0, 2)), set(sp(1, 2)), false},
		{set(sp(0, 1, 3)), set(sp(0, 3)), true}, {set(sp(0, 3)), set(sp(0, 1, 3)), false}, {set(sp(0, 1, 3)), set(sp(0, 2)), false}, {set(sp(0, 1, 3, 5)), set(sp(0, 1, 5)), false}, {set(sp(0, 1, 5)), set(sp(0, 1, 3, 5)), true},
		{set(sp(0, 0, 5, 64)), set(sp(0, 3, 5, 64)), true}, {set(sp(0, 0, 5, 64)), set(sp(0, 3, 5, 65)), false}, {set(sp(0, 0, 64)), set(sp(0, 64)), true}, {set(sp(0, 0, 64)), set(sp(0, 63)), false}, {set(sp(0, 0, 64)), set(sp(0, api.MaxCount)), true},
		{set(sp(1, 1), sp(3, 1)), set(sp(0, 1), sp(1, 1), sp(2, 1), sp(3, 1)), true}, {set(sp(1, 1), sp(3, 2)), set(sp(1, 1), sp(3, 1)), false}, {set(sp(1, 2), sp(3, 1)), set(sp(1, 1), sp(3, 1)), false}, {set(sp(7, 1)), set(sp(0, 1)), false},
		{set(sp(0, 4)), set(sp(0, 2, 4)), false}, {set(sp(0, 3)), set(sp(0, 0, 2, 3)), false},
	} {
		if got := Within(c.a, c.b); got != c.want {
			t.Errorf("Within(%v, %v): %v", c.a, c.b, got)
		}
	}
}

func TestP306NoSets(t *testing.T) {
	for _, s := range noSets() {
		if !Within(s, nil) || !Within(s, set(sp(6, 1))) || !Within(s, s) {
			t.Errorf("%v is no set and has dots", s)
		}
		if !Within(nil, s) || Within(set(sp(0, 1)), s) || Within(set(sp(1, 1)), s) || Within(set(sp(2, 1)), s) {
			t.Errorf("%v is no set and has dots to be within", s)
		}
	}
}

func TestP307Count(t *testing.T) {
	for _, c := range []struct {
		s    []api.Span
		want int
	}{
		{nil, 0}, {set(), 0}, {set(sp(0, 1)), 1}, {set(sp(5, 0, 2)), 1}, {set(sp(0, 3, 5), sp(4, 1)), 5}, {set(sp(0, api.MaxCount)), api.MaxCount}, {set(api.Span{Base: 2, Bits: math.MaxUint64 - 1}), 65},
		{eight(), 1 + 1 + api.MaxCount + (api.MaxCount - 1) + 1 + (api.MaxCount - 63) + 10 + 72},
	} {
		if n := Count(c.s); n != c.want {
			t.Errorf("Count(%v): %d; want %d", c.s, n, c.want)
		}
	}
	for _, s := range noSets() {
		if n := Count(s); n != 0 {
			t.Errorf("Count(%v): %d of no set", s, n)
		}
	}
}

func TestP308Bases(t *testing.T) {
	for _, c := range []struct{ s, want []api.Span }{
		{nil, nil}, {set(), nil}, {set(sp(0, 1)), set(sp(0, 1))}, {set(sp(5, 0, 2)), nil}, {set(sp(0, 3, 5), sp(1, 0, 2), sp(4, 1)), set(sp(0, 3), sp(4, 1))},
		{eight(), set(sp(1, 1), sp(2, api.MaxCount), sp(3, api.MaxCount-2), sp(5, api.MaxCount-64), sp(6, 7), sp(7, 9))},
	} {
		if got := Bases(c.s); !slices.Equal(got, c.want) || Check(got, 1) != api.OK {
			t.Errorf("Bases(%v): %v; want %v", c.s, got, c.want)
		}
	}
	for _, s := range noSets() {
		if got := Bases(s); len(got) != 0 {
			t.Errorf("Bases(%v): %v of no set", s, got)
		}
	}
}

// unchanged: whether call leaves a list as it was, what lies behind its end too.
func unchanged(t *testing.T, what string, call func(s []api.Span)) {
	t.Helper()
	whole := set(sp(0, 2, 4), sp(3, 1), sp(6, 6), sp(7, 7))
	before := slices.Clone(whole)
	call(whole[:2])
	if !slices.Equal(whole, before) {
		t.Errorf("%s: the list that was handed in is now %v", what, whole)
	}
}

// spoil writes over an answer and all its spare room.
func spoil(s []api.Span) {
	for i := range s[:cap(s)] {
		s[:cap(s)][i] = sp(5, 55)
	}
}

func TestP310ListsAreNotChangedNorShared(t *testing.T) {
	for _, d := range []api.Dot{dot(0, 1), dot(0, 3), dot(0, 4), dot(1, 1), dot(3, 2), dot(7, 1), dot(0, 64), dot(9, 9)} {
		unchanged(t, "Add", func(s []api.Span) {
			got, _ := Add(s, d, 4)
			spoil(got)
		})
	}
	for _, other := range [][]api.Span{nil, set(sp(0, 1)), set(sp(0, 3), sp(5, 1)), set(sp(7, 1)), set(sp(9, 1))} {
		unchanged(t, "Union", func(s []api.Span) {
			got, _ := Union(s, other, 4)
			spoil(got)
			got, _ = Union(other, s, 4)
			spoil(got)
			got, _ = Union(s, s, 4)
			spoil(got)
			Within(s, other)
			Within(other, s)
		})
		unchanged(t, "Missing", func(s []api.Span) {
			for range Missing(s, other) {
			}
			for range Missing(other, s) {
			}
		})
	}
	unchanged(t, "the others", func(s []api.Span) {
		Check(s, 4)
		Has(s, dot(0, 4))
		Count(s)
		spoil(Bases(s))
	})
	bare := set(sp(1, 1), sp(2, 2))
	spoil(Bases(bare))
	if !slices.Equal(bare, set(sp(1, 1), sp(2, 2))) {
		t.Errorf("Bases of bases shares memory: %v", bare)
	}
}

// TestP310NotKept: what is done with the lists, or with an answer, behind a call changes no other answer.
func TestP310NotKept(t *testing.T) {
	a, b := set(sp(0, 2, 4)), set(sp(1, 1))
	first, _ := Union(a, b, 4)
	spoil(a)
	spoil(b)
	wantSet(t, "an answer from before", first, api.OK, set(sp(0, 2, 4), sp(1, 1)))
	second, _ := Add(first, dot(0, 3), 4)
	spoil(first)
	wantSet(t, "an answer from before", second, api.OK, set(sp(0, 4), sp(1, 1)))
	third, err := Union(set(sp(0, 2, 4)), set(sp(1, 1)), 4)
	wantSet(t, "asked again", third, err, set(sp(0, 2, 4), sp(1, 1)))
}
