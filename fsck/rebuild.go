package fsck

import (
	"slices"

	"rookery/api"
	"rookery/page"
	"rookery/right"
	"rookery/sibs"
)

// topGen is the greatest number that page 0 has room for.
const topGen = 1<<48 - 1

// canHave tells whether a state is one that the node can have.
func canHave(n right.Node, s api.State) bool {
	return s.Gen >= 0 && s.Gen <= topGen && clocksFit(n, s.Clocks) && keysFit(n, s.Keys) && dotsFit(n, s) && hintsFit(n, s.Hints)
}

func clocksFit(n right.Node, clocks []api.Clock) bool {
	for i, k := range clocks {
		if i > 0 && clocks[i-1].Range >= k.Range || !n.Prefers(k.Range, n.Me) || !right.Set(n.Config, k.Set) {
			return false
		}
	}
	return true
}

func keysFit(n right.Node, keys [][]api.Write) bool {
	if len(keys) > n.Config.Keys {
		return false
	}
	for i, list := range keys {
		if !siblingsFit(n, list) || i > 0 && keys[i-1][0].Key >= list[0].Key {
			return false
		}
	}
	return true
}

func siblingsFit(n right.Node, list []api.Write) bool {
	if len(list) < 1 || len(list) > n.Config.Siblings || !sibs.Valid(list, n.Config.Gap) {
		return false
	}
	wrong := func(w api.Write) bool { return !right.Write(n.Config, w) }
	return !slices.ContainsFunc(list, wrong) && n.Minds(list[0].Key)
}

// dotsFit tells whether the clock of its range has each write's dot, and no other write of the range is named so.
func dotsFit(n right.Node, s api.State) bool {
	type name struct {
		rng int
		dot api.Dot
	}
	met := map[name]struct{}{}
	for _, list := range s.Keys {
		rng := n.Ring.Range(list[0].Key)
		for _, w := range list {
			here := name{rng, w.Dot}
			if _, twice := met[here]; twice || !knows(s.Clocks, rng, w.Dot) {
				return false
			}
			met[here] = struct{}{}
		}
	}
	return true
}

func hintsFit(n right.Node, hints []api.Hint) bool {
	if len(hints) > n.Config.Hints {
		return false
	}
	for i, h := range hints {
		if i > 0 && byNames(hints[i-1], h) >= 0 || !right.Write(n.Config, h.Write) || !n.Keeps(h.Owner, h.Write.Key) {
			return false
		}
	}
	return true
}

// changesTo tells the pages of a state that a node can have: none, if it is that of a disk of zeros. So no page is refused.
func changesTo(s api.State) []api.Change {
	clocks := slices.DeleteFunc(slices.Clone(s.Clocks), func(k api.Clock) bool { return len(k.Set) == 0 })
	if s.Gen == 0 && len(clocks) == 0 && len(s.Keys) == 0 && len(s.Hints) == 0 {
		return nil
	}
	b, _ := page.BuildClocks(s.Gen, clocks)
	changes := []api.Change{{Page: 0, Data: b}}
	for i, list := range s.Keys {
		b, _ := page.BuildKey(list)
		changes = append(changes, api.Change{Page: api.FirstKey + i, Data: b})
	}
	for i, h := range s.Hints {
		b, _ := page.BuildHint(h)
		changes = append(changes, api.Change{Page: api.FirstHint + i, Data: b})
	}
	return changes
}
