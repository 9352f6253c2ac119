package rookery

import "rookery/api"

// What coming to rest may take.
const (
	maxInRow  = 4096 // deliveries
	maxRounds = 400
)

// settle plays on until the cluster is at rest; false, if that takes too long. (play does a step; false, if there was no letter to deliver.)
func (w whole) settle(play func(s api.Step) bool) bool {
	w.wake(play)
	if !w.empty(play) {
		return false
	}
	for range maxRounds {
		if w.atRest() {
			return true
		}
		if !w.round(play) {
			return false
		}
	}
	return false
}

// wake has all nodes up, and no power fail any more.
func (w whole) wake(play func(s api.Step) bool) {
	for node := range w.config.Nodes {
		up := w.sight(node).Up
		play(api.Step{Kind: api.StepArm, Node: node, I: -1}) // of a node that is down it counts from its restart on
		if !up {
			play(api.Step{Kind: api.StepRestart, Node: node})
		}
	}
}

// round fires as many timers of each node as it has; false, if the bag can't be emptied behind one.
func (w whole) round(play func(s api.Step) bool) bool {
	for node := range w.config.Nodes {
		for range len(w.sight(node).Timers) {
			play(api.Step{Kind: api.StepFire, Node: node})
			if !w.empty(play) {
				return false
			}
		}
	}
	return true
}

// empty delivers what is under way, and what comes of it; false, if there is no end of it.
func (w whole) empty(play func(s api.Step) bool) bool {
	for range maxInRow {
		if !play(api.Step{Kind: api.StepDeliver}) {
			return true
		}
	}
	return len(w.Do(api.Step{Kind: api.StepBag}).Bag) == 0
}

// atRest tells whether nothing is left to be done, of a cluster whose bag is empty.
func (w whole) atRest() bool {
	seen := w.sights()
	for _, s := range seen {
		if len(s.Calls) > 0 || len(s.State.Hints) > 0 {
			return false
		}
	}
	for rng := range w.config.Ranges {
		if !w.alike(seen, rng) {
			return false
		}
	}
	return true
}
