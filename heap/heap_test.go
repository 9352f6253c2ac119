package heap

import (
	"cmp"
	"math"
	"slices"
	"testing"
)

func byTens(a, b int) bool { return a/10 < b/10 }

// filled: a heap of ints by tens, with these pushed one behind the other.
func filled(t *testing.T, things ...int) *Heap[int] {
	t.Helper()
	h := New(byTens)
	if h == nil {
		t.Fatal("New: nil")
	}
	for _, x := range things {
		h.Push(x)
	}
	return h
}

func wantRow[T comparable](t *testing.T, h *Heap[T], want ...T) {
	t.Helper()
	if row := h.All(); !slices.Equal(row, want) || h.Len() != len(want) {
		t.Errorf("All %v, Len %d; want %v", row, h.Len(), want)
	}
}

func wantThing[T comparable](t *testing.T, what string, got T, ok bool, want T) {
	t.Helper()
	if got != want || !ok {
		t.Errorf("%s: %v, %v; want %v, true", what, got, ok, want)
	}
}

func wantNone[T comparable](t *testing.T, what string, got T, ok bool) {
	t.Helper()
	var none T
	if got != none || ok {
		t.Errorf("%s: %v, %v; want none", what, got, ok)
	}
}

func wantPops[T comparable](t *testing.T, h *Heap[T], want ...T) {
	t.Helper()
	for _, w := range want {
		x, ok := h.Pop()
		wantThing(t, "Pop", x, ok, w)
	}
}

func TestP201New(t *testing.T) {
	if New[int](nil) != nil || New[[]string](nil) != nil {
		t.Error("New(nil): not nil")
	}
	wantRow(t, filled(t))
}

func TestP201LessFirst(t *testing.T) {
	falling := New(func(a, b string) bool { return a > b })
	for _, s := range []string{"b", "", "c", "a"} {
		falling.Push(s)
	}
	wantRow(t, falling, "c", "b", "a", "")
	wantPops(t, falling, "c", "b", "a", "")
}

// TestP201Alike: what neither is less of two stands as it was pushed, however many there are.
func TestP201Alike(t *testing.T) {
	h := New(func(a, b int) bool { return false })
	var pushed []int
	for i := range 300 {
		x := i * 37 % 300
		h.Push(x)
		pushed = append(pushed, x)
	}
	wantRow(t, h, pushed...)
	wantPops(t, h, pushed...)
}

// TestP201AlikeLater: a thing that comes when others are gone stands behind those alike that stayed.
func TestP201AlikeLater(t *testing.T) {
	h := filled(t, 11, 12, 13)
	wantPops(t, h, 11, 12)
	h.Push(14)
	h.Push(10)
	wantRow(t, h, 13, 14, 10)
	wantPops(t, h, 13, 14, 10)
	h.Push(19)
	h.Push(11)
	wantPops(t, h, 19, 11)
}

// TestP201OwnLessAlone: one heap's order is not asked by the calls of another.
func TestP201OwnLessAlone(t *testing.T) {
	asked := 0
	counted := New(func(a, b int) bool { asked++; return a < b })
	for _, x := range []int{3, 1, 2} {
		counted.Push(x)
	}
	before := asked
	other := filled(t, 5, 4, 30)
	other.All()
	other.Take(1)
	other.Pop()
	if asked != before {
		t.Errorf("asked %d times by another heap's calls", asked-before)
	}
	wantPops(t, counted, 1, 2, 3)
}

// TestP201NoOrder: with functions that are no order every call ends, and each thing comes out once.
func TestP201NoOrder(t *testing.T) {
	flips := 0
	for what, less := range map[string]func(a, b int) bool{
		"all less":  func(a, b int) bool { return true },
		"reflexive": func(a, b int) bool { return a <= b },
		"circle":    func(a, b int) bool { return (b-a+7)%7 < 4 },
		"flipping":  func(a, b int) bool { flips++; return flips%3 == 0 },
		"some pair": func(a, b int) bool { return a%2 == 0 && b == a+1 },
	} {
		h := New(less)
		var pushed, out []int
		for i := range 50 {
			h.Push(i)
			pushed = append(pushed, i)
		}
		for i := range 20 {
			x, ok := h.Take((i * 13) % h.Len())
			if !ok {
				t.Errorf("%s: Take: none", what)
			}
			out = append(out, x)
		}
		row := h.All()
		if len(row) != 30 || h.Len() != 30 {
			t.Errorf("%s: All has %d, Len %d; want 30", what, len(row), h.Len())
		}
		if all := slices.Sorted(slices.Values(append(row, out...))); !slices.Equal(all, pushed) {
			t.Errorf("%s: All and what was taken: %v", what, all)
		}
		for h.Len() > 0 {
			least, _ := h.Least()
			x, ok := h.Pop()
			wantThing(t, what+": Pop", x, ok, least)
			out = append(out, x)
		}
		if slices.Sort(out); !slices.Equal(out, pushed) {
			t.Errorf("%s: came out: %v", what, out)
		}
	}
}

// TestP201NoNumber: NaN makes < no order; it comes out as often as it went in.
func TestP201NoNumber(t *testing.T) {
	h := New(func(a, b float64) bool { return a < b })
	for _, x := range []float64{2, math.NaN(), 1, math.Inf(-1), math.NaN(), 0} {
		h.Push(x)
	}
	strange := 0
	for range 6 {
		x, ok := h.Pop()
		if !ok {
			t.Error("Pop: none")
		}
		if x != x {
			strange++
		}
	}
	if strange != 2 || h.Len() != 0 {
		t.Errorf("%d NaN, %d left; want 2, 0", strange, h.Len())
	}
}

func TestP202PushLen(t *testing.T) {
	h := filled(t)
	for i := range 10 {
		if h.Len() != i {
			t.Errorf("Len %d; want %d", h.Len(), i)
		}
		h.Push(7)
	}
	wantRow(t, h, 7, 7, 7, 7, 7, 7, 7, 7, 7, 7)
	h.Pop()
	h.Take(3)
	h.Take(99)
	h.Least()
	if h.Len() != 8 {
		t.Errorf("Len %d; want 8", h.Len())
	}
}

func TestP202AnyType(t *testing.T) {
	empty := New(func(a, b struct{}) bool { return false })
	empty.Push(struct{}{})
	empty.Push(struct{}{})
	wantRow(t, empty, struct{}{}, struct{}{})
	lists := New(func(a, b []int) bool { return slices.Compare(a, b) < 0 })
	lists.Push([]int{2})
	lists.Push(nil)
	lists.Push([]int{1, 9})
	if l, ok := lists.Pop(); l != nil || !ok {
		t.Errorf("Pop %v, %v; want nil, true", l, ok)
	}
	if l, ok := lists.Pop(); !slices.Equal(l, []int{1, 9}) || !ok {
		t.Errorf("Pop %v, %v; want [1 9], true", l, ok)
	}
}

// TestP202TheThingItself: what comes out is the thing that went in, not one alike.
func TestP202TheThingItself(t *testing.T) {
	first, second, third := new(int), new(int), new(int)
	*second = -1
	h := New(func(a, b *int) bool { return *a < *b })
	for _, p := range []*int{first, second, third, first} {
		h.Push(p)
	}
	wantRow(t, h, second, first, third, first)
	wantPops(t, h, second, first, third, first)
}

func TestP203LeastPop(t *testing.T) {
	h := filled(t)
	x, ok := h.Least()
	wantNone(t, "Least of none", x, ok)
	x, ok = h.Pop()
	wantNone(t, "Pop of none", x, ok)
	for _, n := range []int{30, 20, 40, 10, 50} {
		h.Push(n)
	}
	for i, want := range []int{10, 20, 30, 40, 50} {
		for range 2 {
			x, ok = h.Least()
			wantThing(t, "Least", x, ok, want)
		}
		if h.Len() != 5-i {
			t.Errorf("Len %d; want %d", h.Len(), 5-i)
		}
		x, ok = h.Pop()
		wantThing(t, "Pop", x, ok, want)
	}
	x, ok = h.Least()
	wantNone(t, "Least when all are gone", x, ok)
	x, ok = h.Pop()
	wantNone(t, "Pop when all are gone", x, ok)
	h.Push(0)
	x, ok = h.Pop()
	wantThing(t, "Pop of a zero", x, ok, 0)
}

// TestP204EveryPlace: from rows of every length up to 20 each place is taken out by itself.
func TestP204EveryPlace(t *testing.T) {
	for n := range 21 {
		for k := range n {
			h := filled(t)
			for i := range n {
				h.Push(i * 7 % n * 3)
			}
			row := h.All()
			x, ok := h.Take(k)
			wantThing(t, "Take", x, ok, row[k])
			rest := slices.Delete(row, k, k+1)
			wantRow(t, h, rest...)
			wantPops(t, h, rest...)
		}
	}
}

func TestP204NoSuchPlace(t *testing.T) {
	h := filled(t, 34, 12, 31)
	for _, k := range []int{-1, 3, 4, math.MinInt, math.MaxInt} {
		x, ok := h.Take(k)
		wantNone(t, "Take of no place", x, ok)
		wantRow(t, h, 12, 34, 31)
	}
	x, ok := filled(t).Take(0)
	wantNone(t, "Take of an empty heap", x, ok)
}

// TestP204AlikeStay: those that are alike stay as they were pushed, whatever was taken out between.
func TestP204AlikeStay(t *testing.T) {
	h := filled(t, 10, 11, 12, 13, 14, 15, 16)
	for _, s := range []struct{ k, want int }{{3, 13}, {5, 16}, {0, 10}, {2, 14}} {
		x, ok := h.Take(s.k)
		wantThing(t, "Take", x, ok, s.want)
	}
	wantRow(t, h, 11, 12, 15)
	h.Push(10)
	x, ok := h.Take(1)
	wantThing(t, "Take", x, ok, 12)
	wantPops(t, h, 11, 15, 10)
}

func TestP205All(t *testing.T) {
	h := filled(t)
	wantRow(t, h)
	for _, n := range []int{55, 3, 51, 20, 4, 29, 55} {
		h.Push(n)
	}
	for range 3 {
		wantRow(t, h, 3, 4, 20, 29, 55, 51, 55)
	}
	wantPops(t, h, 3, 4, 20, 29, 55, 51, 55)
}

func TestP205NewMemory(t *testing.T) {
	h := filled(t, 30, 20, 10)
	a, b := h.All(), h.All()
	for i := range a[:cap(a)] {
		a[:cap(a)][i] = -1
	}
	_ = append(a[:0], -2, -2, -2, -2)
	if !slices.Equal(b, []int{10, 20, 30}) {
		t.Errorf("the other list: %v", b)
	}
	wantRow(t, h, 10, 20, 30)
	h.Push(0)
	h.Pop()
	h.Pop()
	if !slices.Equal(b, []int{10, 20, 30}) {
		t.Errorf("the list behind further calls: %v", b)
	}
}

// TestNothingHeld: a thing that was taken out is not held on to in spare room.
func TestNothingHeld(t *testing.T) {
	h := New(func(a, b *int) bool { return *a < *b })
	for i := range 9 {
		h.Push(&i)
	}
	h.Take(4)
	h.Pop()
	for h.Len() > 3 {
		h.Take(h.Len() - 1)
	}
	for i, e := range h.entries[len(h.entries):cap(h.entries)] {
		if e.thing != nil {
			t.Errorf("spare place %d holds %d", i, *e.thing)
		}
	}
}

func TestP209Heaps(t *testing.T) {
	a, b := filled(t, 11, 12), filled(t, 21)
	a.Push(13)
	b.Take(0)
	wantRow(t, a, 11, 12, 13)
	wantRow(t, b)
	b.Push(15)
	b.Push(14)
	a.Pop()
	wantRow(t, a, 12, 13)
	wantRow(t, b, 15, 14)
	falling := New(func(x, y int) bool { return x > y })
	falling.Push(1)
	falling.Push(2)
	wantRow(t, falling, 2, 1)
	wantRow(t, a, 12, 13)
}

// TestExampleHeap: the chapter's first table, row by row.
func TestExampleHeap(t *testing.T) {
	h := filled(t, 34, 12, 31, 17, 5, 12)
	wantRow(t, h, 5, 12, 17, 12, 34, 31)
	x, ok := h.Least()
	wantThing(t, "Least", x, ok, 5)
	if h.Len() != 6 {
		t.Errorf("Len %d; want 6", h.Len())
	}
	x, ok = h.Take(2)
	wantThing(t, "Take(2)", x, ok, 17)
	x, ok = h.Take(5)
	wantNone(t, "Take(5)", x, ok)
	x, ok = h.Take(-1)
	wantNone(t, "Take(-1)", x, ok)
	wantPops(t, h, 5, 12, 12)
	h.Push(30)
	wantRow(t, h, 34, 31, 30)
	wantPops(t, h, 34, 31, 30)
	x, ok = h.Pop()
	wantNone(t, "Pop", x, ok)
}

// TestMany: a great heap stays quick and in order.
func TestMany(t *testing.T) {
	h := New(func(a, b int) bool { return a < b })
	const n = 100_000
	for i := range n {
		h.Push(i * 7919 % n)
	}
	if row := h.All(); len(row) != n || !slices.IsSortedFunc(row, cmp.Compare[int]) {
		t.Errorf("All: %d things", len(row))
	}
	x, ok := h.Take(n / 2)
	wantThing(t, "Take", x, ok, n/2)
	for i := range n {
		if i != n/2 {
			x, ok = h.Pop()
			wantThing(t, "Pop", x, ok, i)
		}
	}
}
