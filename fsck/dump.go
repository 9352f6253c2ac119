package fsck

import (
	"cmp"
	"slices"

	"rookery/api"
	"rookery/page"
)

// state tells what is left when all that has a finding is set aside.
func (l look) state() api.State {
	var state api.State
	for i, s := range l.sheets {
		switch s.kind {
		case page.KindClocks:
			state.Gen = s.gen
		case page.KindKey:
			if list := l.left(i); len(list) > 0 {
				state.Keys = append(state.Keys, list)
			}
		case page.KindHint:
			if len(l.finds[i]) == 0 {
				state.Hints = append(state.Hints, api.Hint{Owner: s.owner, Write: s.writes[0].Write})
			}
		}
	}
	state.Clocks = l.allClocks()
	slices.SortFunc(state.Keys, func(a, b []api.Write) int { return cmp.Compare(a[0].Key, b[0].Key) })
	slices.SortFunc(state.Hints, byNames)
	return state
}

// left tells the first writes of a key's page that nothing is wrong with, as many as there may be; none, if the page is one too many, or of a key that may not be there.
func (l look) left(i int) []api.Write {
	var list []api.Write
	for at, w := range l.sheets[i].writes {
		aside := func(f api.Finding) bool { return setsAside(f, at) }
		if len(list) < l.node.Config.Siblings && !slices.ContainsFunc(l.finds[i], aside) {
			list = append(list, w.Write)
		}
	}
	return list
}

// setsAside tells whether with a finding of a key's page one of its writes doesn't count.
func setsAside(f api.Finding, at int) bool {
	switch f.Kind {
	case FindMany, FindKey:
		return true
	case FindWrite, FindCover, FindDot:
		return f.At == at
	}
	return false
}

// allClocks tells a clock of each range that prefers the node: where none is known, one without dots.
func (l look) allClocks() []api.Clock {
	var list []api.Clock
	for rng := range l.node.Config.Ranges {
		if !l.node.Prefers(rng, l.node.Me) {
			continue
		}
		k := api.Clock{Range: rng}
		if at := slices.IndexFunc(l.known, func(k api.Clock) bool { return k.Range == rng }); at >= 0 {
			k = l.known[at]
		}
		list = append(list, k)
	}
	return list
}

// byNames orders hints by rising owners, keys, dots.
func byNames(a, b api.Hint) int {
	return cmp.Or(cmp.Compare(a.Owner, b.Owner), byKeys(a.Write, b.Write))
}

// byKeys orders writes by rising keys, of one key by rising dots.
func byKeys(a, b api.Write) int {
	return cmp.Or(cmp.Compare(a.Key, b.Key), cmp.Compare(a.Dot.Node, b.Dot.Node), cmp.Compare(a.Dot.Count, b.Dot.Count))
}
