package ring

import (
	"cmp"
	"slices"

	"rookery/api"
)

// point is a place on the circle where a node is met.
type point struct {
	at   uint32
	node int
}

func comparePoints(a, b point) int {
	return cmp.Or(cmp.Compare(a.at, b.at), cmp.Compare(a.node, b.node))
}

// points tells the points of the first nodes, sorted: at one number the lesser node first.
func points(nodes int) []point {
	var list []point
	for node := range nodes {
		for k := range api.Points {
			list = append(list, point{at: Hash([]byte{byte(node), byte(k)}), node: node})
		}
	}
	slices.SortFunc(list, comparePoints)
	return list
}

// place tells where on the circle the going round begins for a range.
func place(rng int) uint32 {
	return Hash([]byte{255, 255, byte(rng)})
}

// meet tells the nodes of sorted points in the order in which they are met from a number on, all the way round.
func meet(list []point, from uint32) []int {
	// no node is below 0: the search ends at the first point of that number, whose ever it is
	begin, _ := slices.BinarySearchFunc(list, point{at: from}, comparePoints)
	met := map[int]struct{}{}
	var order []int
	for _, p := range slices.Concat(list[begin:], list[:begin]) {
		if _, again := met[p.node]; !again {
			met[p.node] = struct{}{}
			order = append(order, p.node)
		}
	}
	return order
}
