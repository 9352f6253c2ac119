package rookery

import (
	"slices"

	"rookery/api"
	"rookery/cluster"
	"rookery/disk"
	"rookery/dotset"
	"rookery/ring"
	"rookery/store"
)

// whole is a cluster, and what is known of it without a look.
type whole struct {
	*cluster.Cluster
	config api.Config
	ring   *ring.Ring
}

// playSteps plays a script as cluster.Run does, and leaves the cluster as it is then.
func playSteps(c api.Config, steps []api.Step) (whole, api.Errno) {
	all, err := cluster.New(c)
	if err != api.OK {
		return whole{}, err
	}
	if len(steps) > api.MaxSteps {
		return whole{}, api.ErrLong
	}
	for _, s := range steps {
		all.Do(s)
	}
	circle, _ := ring.New(c.Nodes, c.Ranges) // a right config has a ring
	return whole{Cluster: all, config: c, ring: circle}, api.OK
}

// preferred tells the nodes that a range prefers, in its order.
func (w whole) preferred(rng int) []int {
	first, _ := w.ring.Preferred(rng, w.config.Prefer) // no more than there are nodes
	return first
}

// sight tells what is to be seen of a node; of one that is down what its disk has.
func (w whole) sight(node int) api.Sight {
	s := w.Do(api.Step{Kind: api.StepSee, Node: node}).Sight
	if !s.Up {
		image := w.Do(api.Step{Kind: api.StepImage, Node: node}).Image
		s.State = stateOn(image, w.config, node)
	}
	return s
}

// sights tells what is to be seen of each node.
func (w whole) sights() []api.Sight {
	var all []api.Sight
	for node := range w.config.Nodes {
		all = append(all, w.sight(node))
	}
	return all
}

// stateOn tells what the bytes of a node's disk have; nothing, if they can't be opened.
func stateOn(image []byte, c api.Config, node int) api.State {
	d, err := disk.From(image) // a disk of its own: opening writes
	if err != api.OK {
		return api.State{}
	}
	s, err := store.Open(d, c, node)
	if err != api.OK {
		return api.State{}
	}
	return s.See()
}

// clock tells what a node knows of a range.
func clock(s api.Sight, rng int) []api.Span {
	for _, c := range s.State.Clocks {
		if c.Range == rng {
			return c.Set
		}
	}
	return nil
}

// alike tells whether all nodes that a range prefers know the same of it.
func (w whole) alike(seen []api.Sight, rng int) bool {
	first := w.preferred(rng)
	for _, node := range first[1:] {
		// two sets with the same dots are the same list
		if !slices.Equal(clock(seen[first[0]], rng), clock(seen[node], rng)) {
			return false
		}
	}
	return true
}

// compare tells the nodes that a range prefers, and for each two of them how many dots the second lacks of what the first knows.
func (w whole) compare(seen []api.Sight, rng int) []int {
	first := w.preferred(rng)
	row := slices.Clone(first)
	for _, a := range first {
		for _, b := range first {
			row = append(row, lacking(clock(seen[a], rng), clock(seen[b], rng)))
		}
	}
	return row
}

// lacking tells how many dots of a set another one lacks.
func lacking(a, b []api.Span) int {
	n := 0
	for range dotset.Missing(a, b) {
		n++
	}
	return n
}
