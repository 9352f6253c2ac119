package store

import (
	"math/bits"
	"slices"

	"rookery/api"
	"rookery/dotset"
	"rookery/ring"
)

// rules is what a config asks of what its node stores.
type rules struct {
	config api.Config
	ring   *ring.Ring
	me     int
}

// rulesOf tells those of a right config: it has a ring.
func rulesOf(c api.Config, me int) rules {
	circle, _ := ring.New(c.Nodes, c.Ranges)
	return rules{config: c, ring: circle, me: me}
}

// prefers tells whether a range prefers a node; one that is none prefers nobody.
func (r rules) prefers(rng, node int) bool {
	first, _ := r.ring.Preferred(rng, r.config.Prefer)
	return slices.Contains(first, node)
}

// minds tells whether the node may store a key's siblings.
func (r rules) minds(key string) bool { return r.prefers(r.ring.Range(key), r.me) }

// keeps tells whether the node may keep a key's writes for an owner.
func (r rules) keeps(owner int, key string) bool {
	return r.prefers(r.ring.Range(key), owner) && !r.minds(key)
}

func (r rules) isNode(node int) bool { return node >= 0 && node < r.config.Nodes }

// isSet tells whether a list is a set of dots of this config.
func (r rules) isSet(s []api.Span) bool {
	if dotset.Check(s, r.config.Gap) != api.OK {
		return false
	}
	return !slices.ContainsFunc(s, func(x api.Span) bool {
		return !r.isNode(x.Node) || top(x) > r.config.Count
	})
}

// isRight tells whether a write is one that a node of this config may be handed.
func (r rules) isRight(w api.Write) bool {
	return isKey(w.Key) && len(w.Value) <= api.MaxValue && !(w.Dead && len(w.Value) > 0) &&
		r.isNode(w.Dot.Node) && w.Dot.Count >= 1 && w.Dot.Count <= r.config.Count &&
		r.isSet(w.Ctx) && !dotset.Has(w.Ctx, w.Dot)
}

func isKey(key string) bool { return len(key) >= 1 && len(key) <= api.MaxKey }

// top tells the greatest count of a span.
func top(x api.Span) int { return x.Base + bits.Len64(x.Bits) }
