package ring

import (
	"testing"

	"rookery/api"
)

// TestExamples: the table of chapter 4, row by row.
func TestExamples(t *testing.T) {
	for i, want := range []uint32{760700053, 3035041849, 1994101313, 2815855815} {
		if got := Hash([][]byte{{}, {0x61}, {0x61, 0x62}, {0xFF, 0x00}}[i]); got != want {
			t.Errorf("the row of Hash, %d: %d; want %d", i, got, want)
		}
	}
	for _, c := range [][2]int{{0, 1}, {9, 1}, {1, 0}, {1, 17}} {
		if r, err := New(c[0], c[1]); r != nil || err != api.ErrArg {
			t.Errorf("New(%d, %d): %v, %d", c[0], c[1], r, err)
		}
	}
	three, five, thirds := fresh(t, 3, 4), fresh(t, 5, 4), fresh(t, 3, 3)
	for i, key := range []string{"a", "k", "c"} {
		if a, b := three.Range(key), thirds.Range(key); a != []int{1, 1, 3}[i] || b != []int{1, 0, 1}[i] {
			t.Errorf("Range(%q): %d with 4 ranges, %d with 3", key, a, b)
		}
	}
	for rng, want := range [][]int{{1, 2, 0}, {2, 0, 1}, {2, 0, 1}, {1, 2, 0}} {
		got, err := three.Order(rng)
		wantList(t, "Order of 3 nodes", got, err, want)
	}
	for rng, want := range [][]int{{1, 3, 2, 0, 4}, {2, 4, 3, 0, 1}, {2, 0, 4, 1, 3}} {
		got, err := five.Order(rng)
		wantList(t, "Order of 5 nodes", got, err, want)
	}
	first, err := five.Preferred(1, 2)
	wantList(t, "Preferred(1, 2)", first, err, []int{2, 4})
	rest, err := five.Standins(1, 2)
	wantList(t, "Standins(1, 2)", rest, err, []int{3, 0, 1})
	rest, err = five.Standins(1, 5)
	wantList(t, "Standins(1, 5)", rest, err, nil)
	for _, c := range []struct {
		rng, n int
		want   api.Errno
	}{{1, 6, api.ErrArg}, {1, 0, api.ErrArg}, {4, 0, api.ErrRange}} {
		first, err = five.Preferred(c.rng, c.n)
		wantErr(t, "Preferred", first, err, c.want)
	}
	if at, err := five.Rank(1, 0); at != 3 || err != api.OK {
		t.Errorf("Rank(1, 0): %d, %d", at, err)
	}
	noRank(t, five, 1, 5, api.ErrNode)
	noRank(t, five, -1, 5, api.ErrRange)
}
