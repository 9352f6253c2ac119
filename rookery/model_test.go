package rookery

import (
	"fmt"
	"math/rand"
	"slices"
	"testing"

	"rookery/api"
	"rookery/cluster"
	"rookery/ring"
)

func oneOf[T any](r *rand.Rand, l ...T) T { return l[r.Intn(len(l))] }

// anyConfig: small numbers, so that limits are met.
func anyConfig(r *rand.Rand) api.Config {
	c := api.Config{Nodes: 1 + r.Intn(6), Ranges: 1 + r.Intn(4), Siblings: 1 + r.Intn(5), Gap: 1 + r.Intn(6), Count: oneOf(r, 3, 9, 100, 1000), Keys: 1 + r.Intn(5), Hints: r.Intn(5), Bag: oneOf(r, 1, 4, 12, 60, 256)}
	c.Prefer = 1 + r.Intn(min(c.Nodes, api.MaxPrefer))
	if r.Intn(2) == 0 { // so that there are stand-ins
		c.Nodes, c.Prefer, c.Hints = 4+r.Intn(3), 2+r.Intn(2), 1+r.Intn(8)
	}
	return c
}

// roomyConfig: one under which each script of no more than 8 Puts comes to rest (W6).
func roomyConfig(r *rand.Rand) api.Config {
	c := anyConfig(r)
	c.Siblings, c.Keys, c.Count = 8, 8, 1000
	return c
}

func circleOf(c api.Config) *ring.Ring {
	circle, _ := ring.New(c.Nodes, c.Ranges)
	return circle
}

func firstOf(c api.Config, rng int) []int {
	l, _ := circleOf(c).Preferred(rng, c.Prefer)
	return l
}

// madeUp: steps that a script may have, many of them refused; each has a line.
func madeUp(r *rand.Rand, c api.Config, steps int) []api.Step {
	var out []api.Step
	calls := 0
	for range steps {
		key := oneOf(r, "a", "k", "g")
		at := oneOf(r, firstOf(c, circleOf(c).Range(key))...)
		node, value, quorum := r.Intn(c.Nodes), []byte(oneOf(r, "v", "word")), 1+r.Intn(c.Prefer)
		s := api.Step{}
		switch k := r.Intn(100); {
		case k < 14:
			s = api.Step{Kind: api.StepPut, Node: at, Key: key, Value: value, Quorum: quorum, Sloppy: r.Intn(4) > 0}
			if r.Intn(3) == 0 {
				s.From = r.Intn(calls + 1)
			}
		case k < 24:
			s = api.Step{Kind: api.StepGet, Node: at, Key: key, Quorum: quorum, Sloppy: r.Intn(2) == 0}
		case k < 28:
			s = api.Step{Kind: oneOf(r, api.StepWrite, api.StepRead), Client: r.Intn(api.MaxClients), Key: key, Quorum: quorum}
		case k < 40:
			s = api.Step{Kind: oneOf(r, api.StepDrop, api.StepDrop, api.StepDouble), I: r.Intn(3)}
		case k < 42:
			s = api.Step{Kind: api.StepMove, I: r.Intn(3), J: r.Intn(3)}
		case k < 56:
			s = api.Step{Kind: api.StepFire, Node: at, I: r.Intn(2)}
		case k < 60:
			s = api.Step{Kind: oneOf(r, api.StepCrash, api.StepRestart, api.StepRestart), Node: node}
		case k < 63:
			s = api.Step{Kind: api.StepArm, Node: node, I: r.Intn(30), J: r.Intn(513)}
		case k < 65:
			s = api.Step{Kind: oneOf(r, api.StepSee, api.StepImage), Node: node - r.Intn(2)}
		case k < 66:
			s = api.Step{Kind: api.StepClient, Client: r.Intn(9), Key: key}
		default:
			s = api.Step{Kind: api.StepDeliver, I: r.Intn(2)}
		}
		if k := s.Kind; k == api.StepPut || k == api.StepGet || k == api.StepWrite || k == api.StepRead {
			calls++
		}
		out = append(out, s)
	}
	return out
}

// dots: of a clock, one by one.
func dots(clocks []api.Clock, rng int) map[api.Dot]int {
	out := map[api.Dot]int{}
	for _, c := range clocks {
		for _, x := range c.Set {
			for count := 1; count <= x.Base+64 && c.Range == rng; count++ {
				if count <= x.Base || x.Bits>>(count-x.Base-1)&1 == 1 {
					out[api.Dot{Node: x.Node, Count: count}]++
				}
			}
		}
	}
	return out
}

// plainCensus: what each node knows is looked at behind its restart.
func plainCensus(t *testing.T, c api.Config, steps []api.Step) [][]int {
	t.Helper()
	all := played(t, c, steps)
	clocks := make([][]api.Clock, c.Nodes)
	for node := range c.Nodes {
		all.Do(api.Step{Kind: api.StepArm, Node: node, I: -1})
		all.Do(api.Step{Kind: api.StepRestart, Node: node})
		clocks[node] = seen(all, node).State.Clocks
	}
	var out [][]int
	for rng := range c.Ranges {
		var lacks []int
		for _, a := range firstOf(c, rng) {
			for _, b := range firstOf(c, rng) {
				n, other := 0, dots(clocks[b], rng)
				for d := range dots(clocks[a], rng) {
					n += 1 - min(1, other[d])
				}
				lacks = append(lacks, n)
			}
		}
		out = append(out, append(firstOf(c, rng), lacks...))
	}
	return out
}

// plainRest: nothing is under way, no call is open, nothing is kept, and nobody lacks anything.
func plainRest(c api.Config, all *cluster.Cluster) bool {
	left := len(bag(all))
	for node := range c.Nodes {
		left += len(seen(all, node).Calls) + len(seen(all, node).State.Hints)
	}
	for rng := range c.Ranges {
		for _, a := range firstOf(c, rng) {
			for _, b := range firstOf(c, rng) {
				other := dots(seen(all, b).State.Clocks, rng)
				for d := range dots(seen(all, a).State.Clocks, rng) {
					left += 1 - min(1, other[d])
				}
			}
		}
	}
	return left == 0
}

// plainSettle: the promise's steps, looked for with a look at the bag ahead of each; nil: it takes too long.
func plainSettle(t *testing.T, c api.Config, steps []api.Step) []api.Step {
	t.Helper()
	all := played(t, c, steps)
	var out []api.Step
	do := func(s api.Step) {
		out = append(out, s)
		all.Do(s)
	}
	deliver := func() {
		for len(bag(all)) > 0 {
			do(api.Step{Kind: api.StepDeliver, I: 0})
		}
	}
	for node := range c.Nodes {
		down := !seen(all, node).Up
		do(api.Step{Kind: api.StepArm, Node: node, I: -1})
		if down {
			do(api.Step{Kind: api.StepRestart, Node: node})
		}
	}
	deliver()
	for round := 0; !plainRest(c, all); round++ {
		if round == 400 {
			return nil
		}
		for node := range c.Nodes {
			for n := len(seen(all, node).Timers); n > 0; n-- {
				do(api.Step{Kind: api.StepFire, Node: node, I: 0})
				deliver()
			}
		}
	}
	return out
}

// meet: what the cluster is like when it is to be settled.
func meet(t *testing.T, c api.Config, steps []api.Step, met map[string]int) {
	t.Helper()
	all := played(t, c, steps)
	for node := range c.Nodes {
		s := seen(all, node)
		if !s.Up {
			met["down"]++
		}
		met["calls"] += len(s.Calls)
		met["hints"] += len(s.State.Hints)
		for _, k := range s.State.Clocks {
			if slices.ContainsFunc(k.Set, func(x api.Span) bool { return x.Bits != 0 }) {
				met["bits"]++
			}
		}
	}
	met["letters"] += len(bag(all))
}

// TestP1802Model: behind random scripts the steps are those of the plain Settle, and lead to rest.
func TestP1802Model(t *testing.T) {
	inParallel(t, 320, func(t *testing.T, seed int64, met map[string]int) {
		r := rand.New(rand.NewSource(seed))
		c := anyConfig(r)
		steps := madeUp(r, c, 20+r.Intn(150))
		meet(t, c, steps, met)
		got, err := Settle(c, steps)
		want := plainSettle(t, c, steps)
		if want == nil {
			met["no rest"]++
			if err != api.ErrLong || len(got) != 0 {
				t.Errorf("%d steps, %d; want ErrLong", len(got), err)
			}
			return
		}
		met["rest"]++
		if len(want) > 3*c.Nodes {
			met["rest behind rounds"]++
		}
		if err != api.OK || spelt(t, got) != spelt(t, want) {
			t.Errorf("%s, %d; want\n%s", spelt(t, got), err, spelt(t, want))
		}
		if !plainRest(c, played(t, c, steps, got)) {
			t.Errorf("behind %s it is not at rest", spelt(t, got))
		}
	}, map[string]int{"rest": 80, "rest behind rounds": 40, "no rest": 20, "down": 100, "calls": 100, "hints": 50, "letters": 200, "bits": 20})
}

// TestP1803Model: of random scripts the numbers are those of the plain Census.
func TestP1803Model(t *testing.T) {
	inParallel(t, 400, func(t *testing.T, seed int64, met map[string]int) {
		r := rand.New(rand.NewSource(seed))
		c := anyConfig(r)
		steps := madeUp(r, c, 20+r.Intn(150))
		meet(t, c, steps, met)
		got, err := Census(c, steps)
		want := plainCensus(t, c, steps)
		if err != api.OK || fmt.Sprint(got) != fmt.Sprint(want) {
			t.Errorf("%v, %d; want %v", got, err, want)
		}
		for _, row := range got {
			for _, n := range row[c.Prefer:] {
				met["lacking"] += n
			}
		}
	}, map[string]int{"down": 100, "bits": 20, "lacking": 1000})
}
