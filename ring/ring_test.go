package ring

import (
	"math"
	"slices"
	"sync"
	"testing"

	"rookery/api"
)

func fresh(t *testing.T, nodes, ranges int) *Ring {
	t.Helper()
	r, err := New(nodes, ranges)
	if r == nil || err != api.OK {
		t.Fatalf("New(%d, %d): %v, %d", nodes, ranges, r, err)
	}
	return r
}

// outside: numbers below 0, and n and some above it.
func outside(n int) []int {
	return []int{math.MinInt, math.MinInt32, -256, -2, -1, n, n + 1, n + 255, n + 256, math.MaxInt32, 1 << 32, 1<<32 + 1, math.MaxInt - 1, math.MaxInt}
}

func wantList(t *testing.T, what string, got []int, err api.Errno, want []int) {
	t.Helper()
	if !slices.Equal(got, want) || err != api.OK {
		t.Errorf("%s: %v, %d; want %v, 0", what, got, err, want)
	}
}

func wantErr(t *testing.T, what string, got []int, err, want api.Errno) {
	t.Helper()
	if got != nil || err != want {
		t.Errorf("%s: %v, %d; want nil, %d", what, got, err, want)
	}
}

// ordersOfEight: the order of each range, reckoned from P401, P404 and P405 apart from this package.
func ordersOfEight() [][]int {
	return [][]int{
		{1, 3, 2, 5, 0, 6, 4, 7}, {7, 2, 4, 3, 6, 5, 0, 1}, {2, 5, 0, 6, 4, 1, 7, 3}, {1, 3, 2, 5, 0, 6, 4, 7},
		{4, 1, 7, 2, 3, 6, 5, 0}, {4, 1, 7, 2, 3, 6, 5, 0}, {7, 4, 1, 3, 2, 5, 0, 6}, {5, 4, 1, 7, 2, 3, 6, 0},
		{3, 2, 5, 0, 6, 4, 1, 7}, {5, 4, 1, 7, 2, 3, 6, 0}, {0, 1, 7, 4, 3, 2, 5, 6}, {6, 5, 4, 1, 7, 2, 3, 0},
		{3, 2, 5, 0, 6, 4, 1, 7}, {6, 3, 5, 7, 2, 0, 1, 4}, {2, 5, 0, 6, 4, 1, 7, 3}, {3, 6, 5, 7, 2, 0, 1, 4},
	}
}

func TestP402Limits(t *testing.T) {
	for nodes := 1; nodes <= api.MaxNodes; nodes++ {
		for ranges := 1; ranges <= api.MaxRanges; ranges++ {
			r := fresh(t, nodes, ranges)
			for rng := range ranges {
				order, err := r.Order(rng)
				if err != api.OK || len(order) != nodes {
					t.Fatalf("%d nodes, %d ranges: Order(%d): %v, %d", nodes, ranges, rng, order, err)
				}
				slices.Sort(order)
				for i, node := range order {
					if node != i {
						t.Errorf("%d nodes, %d ranges, range %d: the nodes are %v", nodes, ranges, rng, order)
					}
				}
			}
			order, err := r.Order(ranges)
			wantErr(t, "Order behind the last range", order, err, api.ErrRange)
		}
	}
}

func TestP402Refused(t *testing.T) {
	refuse := func(nodes, ranges int) {
		t.Helper()
		if r, err := New(nodes, ranges); r != nil || err != api.ErrArg {
			t.Errorf("New(%d, %d): %v, %d; want nil, ErrArg", nodes, ranges, r, err)
		}
	}
	for _, bad := range append(outside(api.MaxNodes+1), 0) {
		refuse(bad, 1)
		refuse(bad, api.MaxRanges)
		refuse(bad, 0)
		refuse(bad, api.MaxRanges+1)
	}
	for _, bad := range append(outside(api.MaxRanges+1), 0) {
		refuse(1, bad)
		refuse(api.MaxNodes, bad)
	}
}

func TestP403Range(t *testing.T) {
	keys := []string{"", "a", "k", "c", "\x00", "\xff\xfe", "é"}
	for ranges, want := range [][]int{
		1: {0, 0, 0, 0, 0, 0, 0}, 2: {1, 1, 1, 1, 0, 0, 1}, 3: {1, 1, 0, 1, 2, 1, 1}, 4: {1, 1, 1, 3, 2, 2, 3},
		5: {3, 4, 2, 2, 4, 4, 0}, 7: {1, 0, 0, 2, 0, 0, 4}, 15: {13, 4, 12, 7, 14, 4, 10}, 16: {5, 9, 13, 11, 6, 10, 11},
	} {
		for i, rng := range want {
			// how many nodes there are must not matter
			for _, nodes := range []int{1, 5, api.MaxNodes} {
				if got := fresh(t, nodes, ranges).Range(keys[i]); got != rng {
					t.Errorf("Range(%q) of %d nodes and %d ranges: %d; want %d", keys[i], nodes, ranges, got, rng)
				}
			}
		}
	}
}

// TestP403LongKeys: a key of any bytes has a range, beyond MaxKey bytes too.
func TestP403LongKeys(t *testing.T) {
	r := fresh(t, 3, 16)
	for n := range 600 {
		b := make([]byte, n)
		for i := range b {
			b[i] = byte(255 - i)
		}
		if got, want := r.Range(string(b)), int(plainHash(b)%16); got != want {
			t.Errorf("Range of %d bytes: %d; want %d", n, got, want)
		}
	}
}

func TestP405Order(t *testing.T) {
	r := fresh(t, api.MaxNodes, api.MaxRanges)
	for rng, want := range ordersOfEight() {
		got, err := r.Order(rng)
		wantList(t, "Order", got, err, want)
	}
}

// TestP405Among: how some nodes stand to one another does not change when others join.
func TestP405Among(t *testing.T) {
	for nodes := 1; nodes <= api.MaxNodes; nodes++ {
		for rng, all := range ordersOfEight() {
			want := slices.DeleteFunc(slices.Clone(all), func(node int) bool { return node >= nodes })
			for _, ranges := range []int{rng + 1, api.MaxRanges} {
				got, err := fresh(t, nodes, ranges).Order(rng)
				wantList(t, "Order", got, err, want)
			}
		}
	}
}

func TestP405Refused(t *testing.T) {
	for _, ranges := range []int{1, 4, api.MaxRanges} {
		r := fresh(t, 5, ranges)
		for _, rng := range outside(ranges) {
			got, err := r.Order(rng)
			wantErr(t, "Order", got, err, api.ErrRange)
		}
	}
}

func TestP406EveryCut(t *testing.T) {
	for nodes := 1; nodes <= api.MaxNodes; nodes++ {
		r := fresh(t, nodes, api.MaxRanges)
		for rng, all := range ordersOfEight() {
			order := slices.DeleteFunc(all, func(node int) bool { return node >= nodes })
			for n := 1; n <= nodes; n++ {
				first, err := r.Preferred(rng, n)
				wantList(t, "Preferred", first, err, order[:n])
				rest, err := r.Standins(rng, n)
				wantList(t, "Standins", rest, err, order[n:])
			}
		}
	}
}

func TestP406Refused(t *testing.T) {
	for _, nodes := range []int{1, 5, api.MaxNodes} {
		r := fresh(t, nodes, 4)
		wrong := append(outside(nodes+1), 0)
		for _, n := range wrong {
			both(t, r, 0, n, api.ErrArg)
			both(t, r, 3, n, api.ErrArg)
		}
		for _, rng := range outside(4) {
			for _, n := range append(wrong, 1, nodes) {
				both(t, r, rng, n, api.ErrRange)
			}
		}
	}
}

func both(t *testing.T, r *Ring, rng, n int, want api.Errno) {
	t.Helper()
	first, err := r.Preferred(rng, n)
	wantErr(t, "Preferred", first, err, want)
	rest, err := r.Standins(rng, n)
	wantErr(t, "Standins", rest, err, want)
}

func TestP407Rank(t *testing.T) {
	for nodes := 1; nodes <= api.MaxNodes; nodes++ {
		r := fresh(t, nodes, api.MaxRanges)
		for rng, all := range ordersOfEight() {
			order := slices.DeleteFunc(all, func(node int) bool { return node >= nodes })
			for want, node := range order {
				if got, err := r.Rank(rng, node); got != want || err != api.OK {
					t.Errorf("%d nodes: Rank(%d, %d): %d, %d; want %d", nodes, rng, node, got, err, want)
				}
			}
		}
	}
}

func TestP407Refused(t *testing.T) {
	for _, nodes := range []int{1, 5, api.MaxNodes} {
		r := fresh(t, nodes, 4)
		for _, node := range outside(nodes) {
			noRank(t, r, 0, node, api.ErrNode)
			noRank(t, r, 3, node, api.ErrNode)
		}
		for _, rng := range outside(4) {
			for _, node := range append(outside(nodes), 0, nodes-1) {
				noRank(t, r, rng, node, api.ErrRange)
			}
		}
	}
}

func noRank(t *testing.T, r *Ring, rng, node int, want api.Errno) {
	t.Helper()
	if at, err := r.Rank(rng, node); at != 0 || err != want {
		t.Errorf("Rank(%d, %d): %d, %d; want 0, %d", rng, node, at, err, want)
	}
}

// TestP408Answers: whatever is done to an answer, spare room included, no other answer shows it.
func TestP408Answers(t *testing.T) {
	r := fresh(t, api.MaxNodes, 4)
	want := ordersOfEight()[1]
	spoil := func(list []int) {
		list = list[:cap(list)]
		for i := range list {
			list[i] = -9
		}
	}
	for range 2 {
		for n := 1; n <= api.MaxNodes; n++ {
			first, _ := r.Preferred(1, n)
			rest, _ := r.Standins(1, n)
			order, _ := r.Order(1)
			spoil(first)
			wantList(t, "Standins beside a spoilt list", rest, api.OK, want[n:])
			wantList(t, "Order beside a spoilt list", order, api.OK, want)
			spoil(rest)
			wantList(t, "Order beside two spoilt lists", order, api.OK, want)
			spoil(order)
		}
		order, err := r.Order(1)
		wantList(t, "Order behind all", order, err, want)
	}
}

// TestP408ManyAsk: two rings that several goroutines ask at once tell what each tells alone.
func TestP408ManyAsk(t *testing.T) {
	r, one := fresh(t, api.MaxNodes, api.MaxRanges), fresh(t, 1, 5)
	var wg sync.WaitGroup
	for range 8 {
		wg.Go(func() {
			for rng, want := range ordersOfEight() {
				got, err := r.Order(rng)
				wantList(t, "Order", got, err, want)
				got, err = one.Order(rng % 5)
				wantList(t, "Order of one node", got, err, []int{0})
			}
		})
	}
	wg.Wait()
}
