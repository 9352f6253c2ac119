// Package right: which keys, sets and writes a config allows (DOC.md, 'Words'): several layers ask for it.
package right

import (
	"math/bits"
	"slices"

	"rookery/api"
	"rookery/dotset"
)

// Key tells whether a key has as many bytes as it may.
func Key(key string) bool { return len(key) >= 1 && len(key) <= api.MaxKey }

// Set tells whether a list is a set of dots of a config.
func Set(c api.Config, s []api.Span) bool {
	if dotset.Check(s, c.Gap) != api.OK {
		return false
	}
	return !slices.ContainsFunc(s, func(x api.Span) bool { return x.Node >= c.Nodes || Top(x) > c.Count })
}

// Write tells whether a write is one that a node of a config may be handed.
func Write(c api.Config, w api.Write) bool {
	return Key(w.Key) && len(w.Value) <= api.MaxValue && !(w.Dead && len(w.Value) > 0) &&
		w.Dot.Node >= 0 && w.Dot.Node < c.Nodes && w.Dot.Count >= 1 && w.Dot.Count <= c.Count &&
		Set(c, w.Ctx) && !dotset.Has(w.Ctx, w.Dot)
}

// Top tells the greatest count of a span.
func Top(x api.Span) int { return x.Base + bits.Len64(x.Bits) }
