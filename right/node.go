package right

import (
	"slices"

	"rookery/api"
	"rookery/ring"
)

// Node is one node of a config, as far as the ring tells what it may store.
type Node struct {
	Config api.Config
	Ring   *ring.Ring
	Me     int
}

// NodeOf tells that of a right config: it has a ring.
func NodeOf(c api.Config, me int) Node {
	circle, _ := ring.New(c.Nodes, c.Ranges)
	return Node{Config: c, Ring: circle, Me: me}
}

// Prefers tells whether a range prefers a node; one that is none prefers nobody.
func (n Node) Prefers(rng, node int) bool {
	first, _ := n.Ring.Preferred(rng, n.Config.Prefer)
	return slices.Contains(first, node)
}

// Minds tells whether the node may store a key's siblings.
func (n Node) Minds(key string) bool { return n.Prefers(n.Ring.Range(key), n.Me) }

// Keeps tells whether the node may keep a key's writes for an owner: one that the range prefers, where it doesn't prefer the node itself.
func (n Node) Keeps(owner int, key string) bool {
	return n.Prefers(n.Ring.Range(key), owner) && !n.Minds(key)
}
