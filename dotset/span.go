package dotset

import (
	"math/bits"

	"rookery/api"
)

// none tells the span of a node without dots: it stands in no set, but for a node that a set doesn't name.
func none(node int) api.Span { return api.Span{Node: node} }

func isSpan(x api.Span, gap int) bool {
	if !isNode(x.Node) || x.Base < 0 || x.Base > api.MaxCount || x == none(x.Node) {
		return false
	}
	beyond := bits.Len64(x.Bits) // how far the greatest count lies above the base
	return x.Bits&1 == 0 && beyond <= gap && x.Base+beyond <= api.MaxCount
}

// spanOf tells what a set has of a node.
func spanOf(s []api.Span, node int) api.Span {
	for _, x := range s {
		if x.Node == node {
			return x
		}
	}
	return none(node)
}

// holds tells whether a span has a count, which is 1 or more.
func holds(x api.Span, count int) bool {
	return count <= x.Base || x.Bits>>(count-x.Base-1)&1 != 0
}

// with tells the span with a count more, no more than MaxGap above its base.
func with(x api.Span, count int) api.Span {
	if count <= x.Base {
		return x
	}
	x.Bits |= 1 << (count - x.Base - 1)
	return settled(x)
}

// joined tells the span of the counts of both, which are of one node.
func joined(x, y api.Span) api.Span {
	if x.Base < y.Base {
		x, y = y, x
	}
	x.Bits |= y.Bits >> (x.Base - y.Base)
	return settled(x)
}

// settled moves the base over the counts that follow on it: a span with bit 0 set has a second form.
func settled(x api.Span) api.Span {
	follow := bits.TrailingZeros64(^x.Bits)
	x.Base += follow
	x.Bits >>= follow
	return x
}
