package dotset

import (
	"iter"
	"math/bits"
	"slices"

	"rookery/api"
)

// Missing goes through the dots of a that b lacks, by rising nodes and counts; a list that is no set is taken as the empty one.
func Missing(a, b []api.Span) iter.Seq[api.Dot] {
	// copies: the lists may change while, or ahead of when, they are gone through
	a, b = slices.Clone(asSet(a)), slices.Clone(asSet(b))
	return func(yield func(api.Dot) bool) {
		for _, x := range a {
			for count := range lacking(x, spanOf(b, x.Node)) {
				if !yield(api.Dot{Node: x.Node, Count: count}) {
					return
				}
			}
		}
	}
}

// lacking goes through the counts of x that y lacks. It begins behind y's base, as up to there y has them all.
func lacking(x, y api.Span) iter.Seq[int] {
	return func(yield func(int) bool) {
		for count := y.Base + 1; count <= x.Base; count++ {
			if !holds(y, count) && !yield(count) {
				return
			}
		}
		for rest := x.Bits; rest != 0; rest &= rest - 1 {
			count := x.Base + 1 + bits.TrailingZeros64(rest)
			if !holds(y, count) && !yield(count) {
				return
			}
		}
	}
}
