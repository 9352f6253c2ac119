package ring

import (
	"cmp"
	"math/rand"
	"slices"
	"testing"

	"rookery/api"
)

// plainOrder: by how far each node's nearest point lies ahead of the place.
func plainOrder(list []point, from uint32) []int {
	ahead := map[int]uint32{}
	for _, p := range list {
		if far, ok := ahead[p.node]; !ok || p.at-from < far {
			ahead[p.node] = p.at - from
		}
	}
	var order []int
	for node := range ahead {
		order = append(order, node)
	}
	slices.SortFunc(order, func(a, b int) int { return cmp.Or(cmp.Compare(ahead[a], ahead[b]), a-b) })
	return order
}

// TestModelCircles: random circles, small ones with many points at one number among them.
func TestModelCircles(t *testing.T) {
	rnd := rand.New(rand.NewSource(4))
	for range 20000 {
		wide := []uint32{3, 12, 1 << 31}[rnd.Intn(3)]
		// the circle's greatest numbers too
		low := []uint32{0, -wide, -wide / 2}[rnd.Intn(3)]
		list := make([]point, rnd.Intn(20))
		for i := range list {
			list[i] = point{low + rnd.Uint32()%wide, rnd.Intn(api.MaxNodes)}
		}
		slices.SortFunc(list, comparePoints)
		from := low + rnd.Uint32()%(wide+1)
		if got, want := meet(list, from), plainOrder(list, from); !slices.Equal(got, want) {
			t.Fatalf("meet(%v, %d): %v; want %v", list, from, got, want)
		}
	}
}

// TestModelRings: every ring's every order, against points reckoned anew from the chapter's words.
func TestModelRings(t *testing.T) {
	for nodes := 1; nodes <= api.MaxNodes; nodes++ {
		var list []point
		for node := range nodes {
			for k := range 4 {
				list = append(list, point{uint32(plainHash([]byte{byte(node), byte(k)})), node})
			}
		}
		for ranges := 1; ranges <= api.MaxRanges; ranges++ {
			r := fresh(t, nodes, ranges)
			for rng := range ranges {
				got, err := r.Order(rng)
				wantList(t, "Order", got, err, plainOrder(list, uint32(plainHash([]byte{255, 255, byte(rng)}))))
			}
		}
	}
}
