package right

import (
	"math"
	"testing"

	"rookery/api"
)

// five: the ranges 0 to 3 prefer 1 3, 2 4, 2 0, 1 3 (chapter 4's examples); the key k lies in 1, p in 2, g in 0.
func five() api.Config {
	return api.Config{Nodes: 5, Prefer: 2, Ranges: 4, Siblings: 2, Gap: 4, Count: 100, Keys: 2, Hints: 1, Bag: 9}
}

func TestPrefers(t *testing.T) {
	n := NodeOf(five(), 2)
	for rng, want := range [][2]int{{1, 3}, {2, 4}, {2, 0}, {1, 3}} {
		for node := -1; node < 9; node++ {
			if got := n.Prefers(rng, node); got != (node == want[0] || node == want[1]) {
				t.Errorf("the range %d prefers %d: %v", rng, node, got)
			}
		}
	}
	for _, rng := range []int{-1, 4, 15, math.MaxInt, math.MinInt} {
		for node := range 5 {
			if n.Prefers(rng, node) {
				t.Errorf("the range %d prefers %d", rng, node)
			}
		}
	}
}

func TestMindsAndKeeps(t *testing.T) {
	preferred := map[string][2]int{"g": {1, 3}, "k": {2, 4}, "p": {2, 0}}
	for me := range 5 {
		n := NodeOf(five(), me)
		for key, want := range preferred {
			minds := me == want[0] || me == want[1]
			if n.Minds(key) != minds {
				t.Errorf("node %d minds %q: %v", me, key, !minds)
			}
			for owner := -1; owner < 9; owner++ {
				keeps := !minds && (owner == want[0] || owner == want[1])
				if n.Keeps(owner, key) != keeps {
					t.Errorf("node %d keeps %q for %d: %v", me, key, owner, !keeps)
				}
			}
		}
	}
}
