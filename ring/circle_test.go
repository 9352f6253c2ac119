package ring

import (
	"math"
	"slices"
	"testing"

	"rookery/api"
)

func TestP404Points(t *testing.T) {
	want := [][]uint32{
		{2910591531, 3721874812, 489047379, 3444313324}, {4226140420, 3532528173, 996109691, 1206905485},
		{2796121914, 1387307580, 3120471524, 355181259}, {30910881, 3336870264, 2521563723, 1642642682},
		{4077063092, 1119365992, 1402134741, 980379898}, {495581188, 466116996, 800420510, 2695863103},
		{2362045764, 713206146, 1767984446, 2064913429}, {3985586454, 1327804827, 2778465143, 2802980846},
	}
	for nodes := range api.MaxNodes + 1 {
		list := points(nodes)
		if len(list) != nodes*api.Points || !slices.IsSortedFunc(list, func(a, b point) int { return int(int64(a.at) - int64(b.at)) }) {
			t.Errorf("points(%d): %v", nodes, list)
		}
		for node := range nodes {
			for _, at := range want[node] {
				if !slices.Contains(list, point{at, node}) {
					t.Errorf("points(%d) lacks %d of node %d", nodes, at, node)
				}
			}
		}
	}
}

func TestP404Places(t *testing.T) {
	for rng, want := range []uint32{
		4099737617, 1258409913, 118126536, 4174574746, 925837716, 1030464099, 3951895013, 775446406,
		4270835600, 795439117, 3440909617, 547281701, 4261706225, 1735685838, 52351377, 1595277385,
	} {
		if got := place(rng); got != want {
			t.Errorf("place(%d): %d; want %d", rng, got, want)
		}
	}
}

// TestP405Round: on circles that no real nodes make: a point at the place itself, two nodes at one number, the way over the greatest number.
func TestP405Round(t *testing.T) {
	const top = math.MaxUint32
	for _, c := range []struct {
		list []point
		from uint32
		want []int
	}{
		{nil, 7, nil},
		{[]point{{5, 3}}, 5, []int{3}}, {[]point{{5, 3}}, 6, []int{3}}, {[]point{{5, 3}}, 0, []int{3}},
		{[]point{{5, 1}, {9, 0}}, 5, []int{1, 0}}, {[]point{{5, 1}, {9, 0}}, 6, []int{0, 1}}, {[]point{{5, 1}, {9, 0}}, 4, []int{1, 0}},
		{[]point{{5, 1}, {9, 0}}, 9, []int{0, 1}}, {[]point{{5, 1}, {9, 0}}, 10, []int{1, 0}}, {[]point{{5, 1}, {9, 0}}, top, []int{1, 0}},
		{[]point{{0, 2}, {3, 1}, {top, 0}}, top, []int{0, 2, 1}}, {[]point{{0, 2}, {3, 1}, {top, 0}}, 0, []int{2, 1, 0}},
		{[]point{{0, 2}, {3, 1}, {top, 0}}, 4, []int{0, 2, 1}}, {[]point{{0, 2}, {3, 1}, {top, 0}}, 1, []int{1, 0, 2}},
		{[]point{{5, 0}, {5, 2}, {5, 6}, {8, 1}}, 5, []int{0, 2, 6, 1}}, {[]point{{5, 0}, {5, 2}, {5, 6}, {8, 1}}, 6, []int{1, 0, 2, 6}},
		{[]point{{1, 4}, {5, 2}, {5, 6}, {8, 1}}, 5, []int{2, 6, 1, 4}}, {[]point{{1, 4}, {top, 2}, {top, 6}}, top, []int{2, 6, 4}},
		{[]point{{1, 4}, {2, 3}, {3, 4}, {4, 0}, {5, 3}}, 3, []int{4, 0, 3}}, {[]point{{1, 4}, {2, 3}, {3, 4}, {4, 0}, {5, 3}}, 5, []int{3, 4, 0}},
		{[]point{{1, 0}, {1, 1}, {9, 0}, {9, 1}}, 9, []int{0, 1}}, {[]point{{1, 1}, {9, 0}, {9, 1}}, 10, []int{1, 0}},
	} {
		if got := meet(c.list, c.from); !slices.Equal(got, c.want) {
			t.Errorf("meet(%v, %d): %v; want %v", c.list, c.from, got, c.want)
		}
	}
}

// TestP405Alike: points at one number stand sorted by their nodes.
func TestP405Alike(t *testing.T) {
	list := []point{{7, 3}, {7, 0}, {2, 5}, {7, 7}, {math.MaxUint32, 1}, {2, 4}, {0, 6}}
	slices.SortFunc(list, comparePoints)
	want := []point{{0, 6}, {2, 4}, {2, 5}, {7, 0}, {7, 3}, {7, 7}, {math.MaxUint32, 1}}
	if !slices.Equal(list, want) {
		t.Errorf("sorted: %v; want %v", list, want)
	}
}
