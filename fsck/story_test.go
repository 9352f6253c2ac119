package fsck

import (
	"fmt"
	"math/rand"
	"testing"

	"rookery/api"
	"rookery/cluster"
	"rookery/store"
)

// anyStep: one of a script that gives nodes much to store, and lets their power fail.
func anyStep(r *rand.Rand, c api.Config) api.Step {
	node, key := r.Intn(c.Nodes), modelKeys[r.Intn(5)]
	switch n := r.Intn(40); {
	case n < 8:
		return api.Step{Kind: api.StepPut, Node: node, Key: key, Value: []byte("value")[:r.Intn(6)], Quorum: c.Prefer, Sloppy: r.Intn(4) > 0, From: r.Intn(8)}
	case n < 11:
		return api.Step{Kind: api.StepGet, Node: node, Key: key, Quorum: 1 + r.Intn(c.Prefer), Sloppy: r.Intn(2) == 0}
	case n < 22:
		return api.Step{Kind: api.StepDeliver, I: r.Intn(3)}
	case n < 31:
		return api.Step{Kind: api.StepFire, Node: node, I: r.Intn(2)}
	case n < 34:
		return api.Step{Kind: api.StepDrop, I: r.Intn(4)}
	case n < 35:
		return api.Step{Kind: api.StepCrash, Node: node}
	case n < 37:
		return api.Step{Kind: api.StepArm, Node: node, I: r.Intn(12), J: r.Intn(513)}
	}
	return api.Step{Kind: api.StepRestart, Node: node}
}

// TestStoryImages: an image that a node has left has no finding, whatever a script has done; Dump tells what the node tells of itself, and Salvage all of it.
func TestStoryImages(t *testing.T) {
	met := map[string]int{}
	for seed := range int64(25) {
		r := rand.New(rand.NewSource(seed))
		config := api.Config{Nodes: 3 + r.Intn(3), Prefer: 2, Ranges: 1 + r.Intn(3), Siblings: 4, Gap: 8, Count: 60, Keys: 5, Hints: 6, Bag: 30}
		c, err := cluster.New(config)
		if err != api.OK {
			t.Fatalf("a cluster: %d", err)
		}
		for i := range 300 {
			c.Do(anyStep(r, config))
			if i%10 == 9 {
				lookAtNode(t, fmt.Sprintf("seed %d, step %d", seed, i), c, config, r.Intn(config.Nodes), met)
			}
		}
	}
	for _, what := range []string{"up", "down", "keys", "hints", "older"} {
		if met[what] < 20 {
			t.Errorf("%s: %d", what, met[what])
		}
	}
}

func lookAtNode(t *testing.T, what string, c *cluster.Cluster, config api.Config, node int, met map[string]int) {
	t.Helper()
	image := c.Do(api.Step{Kind: api.StepImage, Node: node}).Image
	sight := c.Do(api.Step{Kind: api.StepSee, Node: node}).Sight
	wantFinds(t, what, image, config, node)
	left, _ := Dump(image, config, node)
	if sight.Up {
		met["up"]++
		wantDump(t, what, image, config, node, sight.State)
	} else {
		met["down"]++
	}
	salvagesAll(t, what, image, config, node)
	agrees(t, what, image, config, node)
	stored := len(left.Hints)
	for _, l := range left.Keys {
		stored += len(l)
		met["keys"]++
	}
	met["hints"] += len(left.Hints)
	if all, _ := Salvage(image, config, node); len(all) > stored {
		met["older"]++
	}
}

// TestStoryMended: a node's disk is spoilt; what is left is rebuilt, opened, and given by the others what it lacks.
func TestStoryMended(t *testing.T) {
	c := five()
	c.Siblings, c.Keys = 8, 20
	lost := 0
	for seed := range int64(40) {
		r := rand.New(rand.NewSource(seed))
		d, e := newDisk(t), newDisk(t)
		one, two := opened(t, d, c, 2), opened(t, e, c, 4) // range 1 prefers both
		for i := range 12 {
			key := []string{"a", "d", "i", "j", "k", "l", "o"}[r.Intn(7)]
			w, err := one.Mint(key, false, []byte{byte(i)}, nil)
			if _, and := two.Merge(w); err != api.OK || and != api.OK {
				t.Fatalf("seed %d: Mint: %d, Merge: %d", seed, err, and)
			}
		}
		b := d.Image()
		for range 1 + r.Intn(3) { // bytes of pages, those of old ones among them
			b[4096+2048*r.Intn(12)+r.Intn(60)] ^= byte(1 << r.Intn(8))
		}
		left, err := Dump(b, c, 2)
		if err != api.OK {
			t.Fatalf("seed %d: Dump: %d", seed, err)
		}
		if finds, _ := Look(b, c, 2); len(finds) > 0 {
			lost++
			if _, err := store.Open(diskOf(t, b), c, 2); err != api.ErrPage {
				t.Errorf("seed %d: Open of a spoilt disk: %d", seed, err)
			}
		}
		see := opened(t, diskOf(t, rebuilt(t, left, c, 2)), c, 2).See()
		if see.Gen--; showState(see) != showState(left) {
			t.Errorf("seed %d: See: %s; Dump: %s", seed, showState(see), showState(left))
		}
		left.Clocks, left.Keys = nil, nil // of what the clock knew some is lost: the node is to ask for all anew
		s := opened(t, diskOf(t, rebuilt(t, left, c, 2)), c, 2)
		if _, err := s.Take(1, two.Clock(1), two.Missing(clocks(cl(1)))[0]); err != api.OK {
			t.Fatalf("seed %d: Take: %d", seed, err)
		}
		if got, want := fmt.Sprint(s.See().Keys), fmt.Sprint(two.See().Keys); got != want {
			t.Errorf("seed %d: behind the shipment: %s; want %s", seed, got, want)
		}
	}
	if lost < 10 {
		t.Errorf("%d disks were spoilt", lost)
	}
}
