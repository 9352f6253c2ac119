package rookery

import (
	"testing"

	"rookery/api"
)

const (
	armed  = "arm 0 -1 0; arm 1 -1 0; arm 2 -1 0" // the first steps where all three are up
	idle0  = "; fire 0 0; fire 0 0"               // nobody to compare with, nothing to hand back
	asks1  = "; fire 1 0; deliver 0; fire 1 0"    // it asks, and is not answered
	asks2  = "; fire 2 0; deliver 0; fire 2 0"
	ships2 = "; fire 2 0; deliver 0; deliver 0; fire 2 0" // it asks, and is shipped what it lacks
)

// TestP1802Wakes: nodes that are down are started, and no disk is armed any more.
func TestP1802Wakes(t *testing.T) {
	wantSettle(t, three, "crash 1", "arm 0 -1 0; arm 1 -1 0; restart 1; arm 2 -1 0")
	wantSettle(t, three, "crash 0; crash 2", "arm 0 -1 0; restart 0; arm 1 -1 0; arm 2 -1 0; restart 2")
	wantSettle(t, three, "crash 1; arm 1 0 0", "arm 0 -1 0; arm 1 -1 0; restart 1; arm 2 -1 0")
	wantSettle(t, three, "crash 1; restart 1", armed)
	wantSettle(t, three, "arm 2 0 0", armed)
	wantSettle(t, three, "arm 2 0 0; put 1 k v 1; drop 0", armed+idle0+"; fire 1 0; fire 1 0; deliver 0; fire 1 0"+ships2)
	wantSettle(t, three, "put 1 k v 1; drop 0; crash 1; crash 2", "arm 0 -1 0; arm 1 -1 0; restart 1; arm 2 -1 0; restart 2"+idle0+asks1+ships2)
}

// TestP1802Delivers: what is under way is delivered first, from the first place on, and what comes of it.
func TestP1802Delivers(t *testing.T) {
	wantSettle(t, three, "put 1 k v 1", armed+"; deliver 0; deliver 0")
	wantSettle(t, three, "put 1 k v 1; double 0", armed+"; deliver 0; deliver 0; deliver 0; deliver 0")
	wantSettle(t, three, "put 1 k v 2; crash 2", "arm 0 -1 0; arm 1 -1 0; arm 2 -1 0; restart 2; deliver 0; deliver 0")
	wantSettle(t, three, "fire 1 0", armed+"; deliver 0")
	// the fifth of five writes can't be taken at first: what is refused is delivered all the same
	wantSettle(t, three, "put 1 k v 1; get 1 k 1; put 1 k v 1 from 2; get 1 k 1; put 1 k v 1 from 4; get 1 k 1; put 1 k v 1 from 6; get 1 k 1; put 1 k v 1 from 8; "+
		"drop 0; drop 0; drop 0; drop 0; drop 0; drop 0; drop 0; drop 0", armed+"; deliver 0"+
		idle0+"; fire 1 0; fire 1 0; fire 1 0; fire 1 0; fire 1 0; fire 1 0; deliver 0; fire 1 0"+ships2)
}

// TestP1802Calls: a call that has had no answer is waited for; one that was answered is not, whoever is silent.
func TestP1802Calls(t *testing.T) {
	wantSettle(t, three, "get 1 k 2; drop 0", armed+idle0+"; fire 1 0; fire 1 0; deliver 0; fire 1 0"+asks2)
	wantSettle(t, three, "get 2 k 2; drop 0", armed+idle0+asks1+"; fire 2 0; fire 2 0; deliver 0; fire 2 0")
	wantSettle(t, three, "put 1 k v 2; deliver 0; drop 0", armed+idle0+"; fire 1 0; fire 1 0; deliver 0; fire 1 0"+asks2)
	wantSettle(t, three, "put 1 k v 1; deliver 0; drop 0", armed)
	wantSettle(t, three, "get 1 k 1; drop 0", armed)
	wantSettle(t, three, "get 1 k 2; drop 0; crash 1", "arm 0 -1 0; arm 1 -1 0; restart 1; arm 2 -1 0")
	// a sloppy Get asks the stand-in, and is answered
	wantSettle(t, three, "get 1 k 2 sloppy; drop 0", armed+idle0+"; fire 1 0; deliver 0; deliver 0; fire 1 0; deliver 0; fire 1 0"+asks2)
}

// TestP1802Hints: what a stand-in keeps is handed back, also where the owner has it already.
func TestP1802Hints(t *testing.T) {
	kept := "put 1 k v 2 sloppy; drop 0; fire 1 0; deliver 0; deliver 0"
	back := "; fire 0 0; fire 0 0; deliver 0; deliver 0"
	waits1 := "; fire 1 0; deliver 0; fire 1 0; fire 1 0" // the call's second timer is due between the two others
	wantSettle(t, three, kept, armed+back+waits1+asks2)
	wantSettle(t, three, kept+"; fire 2 0; deliver 0; deliver 0", armed+back+waits1+"; fire 2 0; fire 2 0; deliver 0")
	wantSettle(t, three, kept+"; crash 0", "arm 0 -1 0; restart 0; arm 1 -1 0; arm 2 -1 0"+back+waits1+asks2)
}

// TestP1802Alone: nodes that have nobody to compare with have nothing to settle.
func TestP1802Alone(t *testing.T) {
	wantSettle(t, "nodes 1 prefer 1 ranges 2 siblings 2 gap 4 count 100 keys 2 hints 2 bag 50", "put 0 k v 1; crash 0", "arm 0 -1 0; restart 0")
	wantSettle(t, "nodes 2 prefer 1 ranges 2 siblings 2 gap 4 count 100 keys 2 hints 2 bag 50", "crash 1; put 0 k v 1; put 0 a v 1", "arm 0 -1 0; arm 1 -1 0; restart 1")
}

// TestP1802Unrest: where a limit keeps nodes from taking over what they lack, there is no rest.
func TestP1802Unrest(t *testing.T) {
	const oneKey = "nodes 3 prefer 2 ranges 1 siblings 2 gap 4 count 100 keys 1 hints 2 bag 50"
	const oneSibling = "nodes 3 prefer 2 ranges 1 siblings 1 gap 4 count 100 keys 2 hints 2 bag 50"
	wantUnrest(t, oneKey, "put 1 a v 1; put 2 k v 1")
	wantSettle(t, three, "put 1 a v 1; put 2 k v 1", armed+"; deliver 0; deliver 0; deliver 0; deliver 0")
	wantUnrest(t, oneSibling, "put 1 k v 1; put 2 k v 1")
	wantSettle(t, three, "put 1 k v 1; put 2 k v 1", armed+"; deliver 0; deliver 0; deliver 0; deliver 0")
	wantUnrest(t, oneSibling, "put 1 k v 1; put 2 k v 1; crash 1; crash 2; crash 0")
}

// stuck: a cluster that never comes to rest, each of whose three nodes has two timers.
func stuck(t *testing.T) whole {
	t.Helper()
	c, steps := read(t, three, "put 1 k v 1; drop 0; crash 1; restart 1")
	w, err := playSteps(c, steps)
	if err != api.OK || w.atRest() {
		t.Fatalf("it is at rest, or has not been played: %d", err)
	}
	return w
}

// TestP1802Rounds: there are 400 rounds; whether the cluster is at rest is looked at ahead of each, not behind the last.
func TestP1802Rounds(t *testing.T) {
	const round = 3 * 2 // timers
	for last, want := range map[int]bool{1: true, 399: true, 400: false, 401: false} {
		w, fires := stuck(t), 0
		got := w.settle(func(s api.Step) bool {
			if s.Kind != api.StepFire {
				return false
			}
			// no timer is fired, but for that of this round by which node 2 asks
			if fires++; fires == last*round {
				w.Do(api.Step{Kind: api.StepFire, Node: 2})
				w.Do(api.Step{Kind: api.StepDeliver})
				w.Do(api.Step{Kind: api.StepDeliver})
			}
			return true
		})
		if got != want || fires != min(last, 400)*round {
			t.Errorf("at rest behind the round %d: %v, %d fires", last, got, fires)
		}
	}
}

// TestP1802InARow: at most 4096 letters are delivered behind one another; if there is one then still, it is given up.
func TestP1802InARow(t *testing.T) {
	for letters, want := range map[int]int{0: 1, 1: 2, 4095: 4096, 4096: 4096, 4097: 4096, 10000: 4096} {
		w, tries := stuck(t), 0
		if letters > 4096 { // the bag has one to the end
			w.Do(api.Step{Kind: api.StepFire, Node: 1})
		}
		got := w.empty(func(api.Step) bool {
			tries++
			return tries <= letters
		})
		if got != (letters <= 4096) || tries != want {
			t.Errorf("%d letters: %v, %d deliveries were tried", letters, got, tries)
		}
	}
	for _, first := range []bool{true, false} { // ahead of the rounds, or in one
		w, fires := stuck(t), 0
		w.Do(api.Step{Kind: api.StepFire, Node: 1})
		got := w.settle(func(s api.Step) bool {
			if s.Kind == api.StepFire {
				fires++
			}
			return s.Kind != api.StepDeliver || first || fires == 2
		})
		if want := map[bool]int{true: 0, false: 2}[first]; got || fires != want {
			t.Errorf("a bag that has no end: %v behind %d fires, want %d", got, fires, want)
		}
	}
}
