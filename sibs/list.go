package sibs

import (
	"bytes"
	"cmp"
	"slices"

	"rookery/api"
	"rookery/dotset"
)

// isWrite tells whether a write may be a sibling, all others set aside.
func isWrite(w api.Write, gap int) bool {
	return len(w.Key) >= 1 && len(w.Key) <= api.MaxKey &&
		len(w.Value) <= api.MaxValue && !(w.Dead && len(w.Value) > 0) &&
		isDot(w.Dot) && dotset.Check(w.Ctx, gap) == api.OK && !dotset.Has(w.Ctx, w.Dot)
}

func isDot(d api.Dot) bool {
	return d.Node >= 0 && d.Node < api.MaxNodes && d.Count >= 1 && d.Count <= api.MaxCount
}

// compare orders writes by their dots, those that are none too.
func compare(a, b api.Write) int {
	return cmp.Or(cmp.Compare(a.Dot.Node, b.Dot.Node), cmp.Compare(a.Dot.Count, b.Dot.Count))
}

// byDots sorts a list in its own memory; of writes with one dot the first is left.
func byDots(list []api.Write) []api.Write {
	slices.SortStableFunc(list, compare)
	return slices.CompactFunc(list, func(a, b api.Write) bool { return a.Dot == b.Dot })
}

// merged tells what is left of a set, of whose writes none has w's dot, and of w.
func merged(set []api.Write, w api.Write) []api.Write {
	var left []api.Write
	for _, t := range set {
		if !Covers(w, t) {
			left = append(left, t)
		}
	}
	if slices.ContainsFunc(left, func(t api.Write) bool { return Covers(t, w) }) {
		return left
	}
	at := slices.IndexFunc(left, func(t api.Write) bool { return compare(t, w) > 0 })
	if at < 0 {
		at = len(left)
	}
	return slices.Insert(left, at, w)
}

// uncovered tells the writes of a list, all of one key, that no other one of it covers.
func uncovered(list []api.Write) []api.Write {
	// what stands ahead of a write and what stands behind it are gone through apart: a write that has its own dot does not cover itself away
	covered := make([]bool, len(list))
	var known []api.Span
	for i, w := range list {
		covered[i] = dotset.Has(known, w.Dot)
		known = union(api.MaxGap, known, w.Ctx)
	}
	known = nil
	var left []api.Write
	for i, w := range slices.Backward(list) {
		if !covered[i] && !dotset.Has(known, w.Dot) {
			left = append(left, w)
		}
		known = union(api.MaxGap, known, w.Ctx)
	}
	slices.Reverse(left)
	return left
}

// union tells the dots of all those lists that are sets for a gap; the others are passed over.
func union(gap int, lists ...[]api.Span) []api.Span {
	var all []api.Span
	for _, list := range lists {
		if more, err := dotset.Union(all, list, gap); err == api.OK {
			all = more
		}
	}
	return all
}

// seen tells the token of one who has seen a write more; false, if the write does not fit in.
func seen(token []api.Span, w api.Write, gap int) ([]api.Span, bool) {
	more, err := dotset.Union(token, w.Ctx, gap)
	if err != api.OK {
		return nil, false
	}
	// Add refuses just what does not fit: a dot that is none, and a count too far above its node's base
	more, err = dotset.Add(more, w.Dot, gap)
	return more, err == api.OK
}

// copies tells the writes in new memory, that of their values and contexts too.
func copies(list []api.Write) []api.Write {
	list = slices.Clone(list)
	for i, w := range list {
		list[i].Value, list[i].Ctx = bytes.Clone(w.Value), slices.Clone(w.Ctx)
	}
	return list
}
