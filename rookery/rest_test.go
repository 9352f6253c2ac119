package rookery

import (
	"fmt"
	"math/rand"
	"slices"
	"testing"

	"rookery/api"
	"rookery/cluster"
	"rookery/dotset"
)

// name: a write's.
type name struct {
	key string
	dot api.Dot
}

// gather adds all that is stored or kept anywhere.
func gather(c api.Config, all *cluster.Cluster, ever map[name]api.Write) {
	for node := range c.Nodes {
		state := seen(all, node).State
		for _, w := range slices.Concat(state.Keys...) {
			ever[name{w.Key, w.Dot}] = w
		}
		for _, h := range state.Hints {
			ever[name{h.Write.Key, h.Write.Dot}] = h.Write
		}
	}
}

// uncovered: the names of the writes of a key that none of the others covers, sorted as text.
func uncovered(ever map[name]api.Write, key string) []string {
	var out []string
	for n, w := range ever {
		covered := false
		for m, x := range ever {
			covered = covered || m.key == key && dotset.Has(x.Ctx, w.Dot)
		}
		if n.key == key && !covered {
			out = append(out, fmt.Sprint(n.dot))
		}
	}
	slices.Sort(out)
	return out
}

func siblings(state api.State, key string) []string {
	var out []string
	for _, w := range slices.Concat(state.Keys...) {
		if w.Key == key {
			out = append(out, fmt.Sprint(w.Dot))
		}
	}
	slices.Sort(out)
	return out
}

// fewPuts: the script without its Puts from the ninth on.
func fewPuts(steps []api.Step) []api.Step {
	puts := 0
	return slices.DeleteFunc(steps, func(s api.Step) bool {
		if s.Kind == api.StepPut || s.Kind == api.StepWrite {
			puts++
			return puts > 8
		}
		return false
	})
}

// TestP1802W6: of scripts that W6 speaks of each comes to rest, and all preferred nodes have the siblings of all that was ever stored.
func TestP1802W6(t *testing.T) {
	inParallel(t, 160, func(t *testing.T, seed int64, met map[string]int) {
		r := rand.New(rand.NewSource(seed))
		c := roomyConfig(r)
		steps := fewPuts(madeUp(r, c, 150))
		further, err := Settle(c, steps)
		if err != api.OK {
			t.Fatalf("it does not come to rest: %d", err)
		}
		met["steps"] += len(further)
		all, _ := cluster.New(c)
		ever := map[name]api.Write{}
		for _, s := range slices.Concat(steps, further) {
			all.Do(s)
			gather(c, all, ever)
		}
		met["writes"] += len(ever)
		for _, key := range []string{"a", "k", "g"} {
			want := uncovered(ever, key)
			for _, node := range firstOf(c, circleOf(c).Range(key)) {
				if got := siblings(seen(all, node).State, key); !slices.Equal(got, want) {
					t.Errorf("at rest node %d has of %s %v; want %v", node, key, got, want)
				}
			}
		}
		if !plainRest(c, all) {
			t.Errorf("it is not at rest")
		}
	}, map[string]int{"steps": 4000, "writes": 700})
}

// TestP1802Again: a cluster that is at rest stays so: behind what Settle has told nothing but the first steps is left.
func TestP1802Again(t *testing.T) {
	for seed := range int64(40) {
		r := rand.New(rand.NewSource(seed))
		c := roomyConfig(r)
		steps := fewPuts(madeUp(r, c, 100))
		further, err := Settle(c, steps)
		if err != api.OK {
			t.Fatalf("seed %d: %d", seed, err)
		}
		again, err := Settle(c, slices.Concat(steps, further))
		if err != api.OK || len(again) != c.Nodes {
			t.Errorf("seed %d: %s, %d", seed, spelt(t, again), err)
		}
		census, err := Census(c, slices.Concat(steps, further))
		for _, row := range census {
			if slices.Max(row[c.Prefer:]) != 0 {
				t.Errorf("seed %d: %v at rest", seed, row)
			}
		}
		if err != api.OK || len(census) != c.Ranges {
			t.Errorf("seed %d: %d rows, %d", seed, len(census), err)
		}
	}
}
