package page

import (
	"rookery/api"
	"rookery/dotset"
)

// maxGen: the greatest number of a page of clocks: it has six bytes.
const maxGen = 1<<(8*genBytes) - 1

// lookAtClocks tells what a page of clocks is refused for.
func lookAtClocks(gen int, clocks []api.Clock) api.Errno {
	if !within(gen, 0, maxGen) {
		return api.ErrArg
	}
	if len(clocks) > api.MaxRanges {
		return api.ErrWide
	}
	least := 0
	for _, c := range clocks {
		if !within(c.Range, least, api.MaxRanges-1) {
			return api.ErrRange
		}
		if !isSet(c.Set) {
			return api.ErrSet
		}
		least = c.Range + 1
	}
	return api.OK
}

// lookAtSiblings tells what a page of a key is refused for.
func lookAtSiblings(sibs []api.Write) api.Errno {
	if len(sibs) == 0 {
		return api.ErrArg
	}
	if len(sibs) > api.MaxSiblings {
		return api.ErrWide
	}
	if !isKey(sibs[0].Key) {
		return api.ErrKey
	}
	var ahead api.Dot
	for _, w := range sibs {
		if w.Key != sibs[0].Key {
			return api.ErrKey
		}
		if !storable(w) {
			return api.ErrWrite
		}
		if w.Dot.Node < ahead.Node || w.Dot.Count < leastCount(ahead, w.Dot.Node) {
			return api.ErrArg
		}
		ahead = w.Dot
	}
	return api.OK
}

// lookAtHint tells what a page of a hint is refused for.
func lookAtHint(h api.Hint) api.Errno {
	if !isNode(h.Owner) {
		return api.ErrNode
	}
	if !isKey(h.Write.Key) {
		return api.ErrKey
	}
	if !storable(h.Write) {
		return api.ErrWrite
	}
	return api.OK
}

func storable(w api.Write) bool {
	return isNode(w.Dot.Node) && within(w.Dot.Count, 1, api.MaxCount) && isKey(w.Key) &&
		len(w.Value) <= mostValue(w.Dead) && isContext(w.Ctx, w.Dot)
}

// mostValue tells how long a write's value may be.
func mostValue(dead bool) int {
	if dead {
		return 0
	}
	return api.MaxValue
}

// leastCount tells the least count that a dot of a node may have behind the dot ahead, which is the zero one if there is none.
func leastCount(ahead api.Dot, node int) int {
	if node == ahead.Node {
		return ahead.Count + 1
	}
	return 1
}

// isContext tells whether it is a set of dots without the write's own.
func isContext(s []api.Span, own api.Dot) bool { return isSet(s) && !dotset.Has(s, own) }

func isSet(s []api.Span) bool { return dotset.Check(s, api.MaxGap) == api.OK }

func isKey(key string) bool { return within(len(key), 1, api.MaxKey) }

func isNode(node int) bool { return within(node, 0, api.MaxNodes-1) }

func within(n, least, most int) bool { return n >= least && n <= most }
