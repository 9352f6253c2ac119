package store

import (
	"slices"

	"rookery/api"
	"rookery/right"
	"rookery/ring"
)

// rules is what a config asks of what its node stores.
type rules struct {
	config api.Config
	ring   *ring.Ring
	me     int
}

// rulesOf tells those of a right config: it has a ring.
func rulesOf(c api.Config, me int) rules {
	circle, _ := ring.New(c.Nodes, c.Ranges)
	return rules{config: c, ring: circle, me: me}
}

// prefers tells whether a range prefers a node; one that is none prefers nobody.
func (r rules) prefers(rng, node int) bool {
	first, _ := r.ring.Preferred(rng, r.config.Prefer)
	return slices.Contains(first, node)
}

// minds tells whether the node may store a key's siblings.
func (r rules) minds(key string) bool { return r.prefers(r.ring.Range(key), r.me) }

// keeps tells whether the node may keep a key's writes for an owner.
func (r rules) keeps(owner int, key string) bool {
	return r.prefers(r.ring.Range(key), owner) && !r.minds(key)
}

func (r rules) isNode(node int) bool { return node >= 0 && node < r.config.Nodes }

func (r rules) isSet(s []api.Span) bool { return right.Set(r.config, s) }

func (r rules) isRight(w api.Write) bool { return right.Write(r.config, w) }
