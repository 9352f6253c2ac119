package cluster

import (
	"testing"

	"rookery/api"
)

// tale: a script whose steps change disks in all the ways that there are: Puts, what others are told of them, hints that are kept, handed back and given up, shipments, what is read, and restarts.
func tale() []api.Step {
	return []api.Step{
		putting(atP, "k", "a", 2), delivering(0), delivering(0), // stored at q, too
		getting(atP, "k", 1), dropping(0), behind(putting(atP, "k", "b", 2), 2), dropping(0), // q lacks it
		sloppily(putting(atP, "a", "c", 2)), dropping(0), firing(atP, 2), delivering(0), delivering(0), // kept at s for q
		putting(atQ, "k", "d", 1), dropping(0), putting(atQ, "a", "e", 1), dropping(0), putting(atQ, "a", "f", 1), dropping(0),
		firing(atS, 1), doubling(0), delivering(0), delivering(0), delivering(0), delivering(0), // handed back twice, given up once
		getting(atP, "k", 2), delivering(0), delivering(0), delivering(0), delivering(0), // p reads d, and has q store b
		getting(atP, "a", 2), delivering(0), delivering(0), // p reads e and f: two commits
		writing(0, "a", "g", 1), dropping(0), firing(atQ, 3), delivering(0), delivering(0), // shipped to q
		dying(putting(atQ, "k", "", 2)), crashing(atQ), restarting(atQ), rereading(2, "k", 2), delivering(0), delivering(0), delivering(0), delivering(0),
	}
}

func roomyThree() api.Config { return with(three(), func(c *api.Config) { c.Siblings = 8 }) }

// TestTale: it does what it is for.
func TestTale(t *testing.T) {
	p := fresh(t, roomyThree())
	p.does(tale()...)
	p.wantBag()
	p.wantHints(atS)
	for _, at := range []int{atP, atQ} {
		if x := p.Do(seeing(at)).Sight.State; len(x.Keys) != 2 || len(x.Keys[0]) != 4 || len(x.Keys[1]) != 3 || x.Clocks[0].Set[0] != sp(atP, 4) || x.Clocks[0].Set[1] != sp(atQ, 4) {
			t.Errorf("node %d: %s", at, showState(x))
		}
	}
}

// TestW5EveryRawWrite: in each step of a tale the power of each node fails in each of its raw writes, torn anywhere; and, behind it, in each of those of its restart. All answers are those of the plain cluster: what is there is the state between two commits.
func TestW5EveryRawWrite(t *testing.T) {
	steps := tale()
	failed := 0
	for i, s := range steps {
		if s.Kind == api.StepCrash { // which is a power failure by itself
			continue
		}
		for node := range 3 {
			failed += failIn(t, steps, i, node)
		}
		if t.Failed() {
			t.Fatalf("the step %d, %+v", i, s)
		}
	}
	if failed < 500 {
		t.Errorf("the power failed only %d times", failed)
	}
}

// failIn has a node's power fail in a step of a script, in all its raw writes; it tells how often it did.
func failIn(t *testing.T, steps []api.Step, i, node int) int {
	t.Helper()
	failed := 0
	for after := 0; ; after++ {
		down := false
		for _, torn := range []int{0, 1, 9, 300, 504, 505, 511, 512} {
			x := &twins{play: fresh(t, roomyThree()), plain: newPlain(roomyThree()), met: map[string]int{}}
			for _, s := range steps[:i] {
				x.step(s)
			}
			x.step(arming(node, after, torn))
			x.step(steps[i])
			if x.places[node].isUp() {
				break
			}
			down = true
			failed++
			x.image(node, x.Do(imaging(node)).Image)
			x.step(arming(node, after%6, torn))
			x.step(restarting(node))
			x.step(restarting(node))
			x.alike([]string{"k", "a"})
		}
		if !down {
			return failed
		}
	}
}
