package node

import (
	"slices"

	"rookery/api"
	"rookery/right"
)

// refusal tells why a call can't begin, whatever is stored.
func (n *Node) refusal(call int, key string, dead bool, value []byte, token []api.Span, quorum int) api.Errno {
	_, used := n.begun[call]
	switch {
	case n.isDown():
		return api.ErrDown
	case !right.Key(key):
		return api.ErrKey
	case len(value) > api.MaxValue:
		return api.ErrLong
	case dead && len(value) > 0:
		return api.ErrArg
	case !n.minds(key):
		return api.ErrMine
	case call < 1 || call > api.MaxCalls || quorum < 1 || quorum > n.config.Prefer:
		return api.ErrArg
	case !right.Set(n.config, token):
		return api.ErrSet
	case used:
		return api.ErrCall
	}
	return api.OK
}

// nodesOf tells the nodes that a key's range prefers, and those that stand in for them.
func (n *Node) nodesOf(key string) (first, rest []int) {
	rng := n.ring.Range(key)
	first, _ = n.ring.Preferred(rng, n.config.Prefer) // a key's range is one, and Prefer no more than there are nodes
	rest, _ = n.ring.Standins(rng, n.config.Prefer)
	return first, rest
}

// minds tells whether the node is one that a key's range prefers.
func (n *Node) minds(key string) bool {
	first, _ := n.nodesOf(key)
	return slices.Contains(first, n.me)
}
