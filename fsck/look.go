package fsck

import (
	"slices"

	"rookery/api"
	"rookery/dotset"
	"rookery/page"
	"rookery/right"
	"rookery/sibs"
)

// look is what an image shows.
type look struct {
	node   right.Node
	sheets []sheet
	known  []api.Clock     // of page 0 those that nothing is wrong with
	ahead  []api.Finding   // of no page that there is
	finds  [][]api.Finding // of each sheet
}

// lookAt reads all pages first, and holds each against the others then.
func lookAt(image []byte, n right.Node) look {
	sheets, good := sheetsOf(image, n)
	l := look{node: n, sheets: sheets, ahead: findsAhead(sheets, good), finds: make([][]api.Finding, len(sheets))}
	for _, k := range l.clocks() {
		if fits(n, k) {
			l.known = append(l.known, k)
		}
	}
	sideBySide(len(sheets), func(i int) { l.finds[i] = l.findsOf(sheets[i], sheets[:i]) })
	return l
}

func findsAhead(sheets []sheet, good bool) []api.Finding {
	switch {
	case !good:
		return []api.Finding{{Kind: FindRoot, Page: -1}}
	case len(sheets) > 0 && sheets[0].number != 0:
		return []api.Finding{{Kind: FindKind}}
	}
	return nil
}

// clocks tells those of page 0, if it is readable.
func (l look) clocks() []api.Clock {
	if len(l.sheets) == 0 {
		return nil
	}
	return l.sheets[0].clocks
}

// fits tells whether page 0 of a node may have such a clock.
func fits(n right.Node, k api.Clock) bool {
	return n.Prefers(k.Range, n.Me) && right.Set(n.Config, k.Set) && len(k.Set) > 0
}

// findsOf tells what is wrong with a page, of which these are the lower ones.
func (l look) findsOf(s sheet, lower []sheet) []api.Finding {
	switch s.kind {
	case page.KindClocks:
		return l.findsOfClocks(s)
	case page.KindKey:
		return l.findsOfKey(s, lower)
	case page.KindHint:
		return l.findsOfHint(s, lower)
	}
	return []api.Finding{s.why}
}

// notes are findings of one page.
type notes struct {
	page int
	list []api.Finding
}

func (n *notes) noteIf(wrong bool, kind, at int) {
	if wrong {
		n.list = append(n.list, api.Finding{Kind: kind, Page: n.page, At: at})
	}
}

func (l look) findsOfClocks(s sheet) []api.Finding {
	n := notes{page: s.number}
	for i, k := range s.clocks {
		n.noteIf(!fits(l.node, k), FindClock, i)
	}
	return n.list
}

func (l look) findsOfKey(s sheet, lower []sheet) []api.Finding {
	limit := l.node.Config.Siblings
	n := notes{page: s.number}
	n.noteIf(howMany(lower, page.KindKey) >= l.node.Config.Keys, FindMany, 0)
	n.noteIf(!l.node.Minds(s.key) || slices.ContainsFunc(lower, s.sameKey), FindKey, 0)
	n.noteIf(len(s.writes) > limit, FindSiblings, limit)
	for i, w := range s.writes {
		n.noteIf(!w.right, FindWrite, i)
		n.noteIf(w.right && s.covers(i), FindCover, i)
		n.noteIf(w.right && (!knows(l.known, s.rng, w.Dot) || stands(lower, s.rng, w.Dot)), FindDot, i)
	}
	return n.list
}

func (l look) findsOfHint(s sheet, lower []sheet) []api.Finding {
	n := notes{page: s.number}
	n.noteIf(howMany(lower, page.KindHint) >= l.node.Config.Hints, FindMany, 0)
	n.noteIf(!s.writes[0].right, FindWrite, 0)
	n.noteIf(!l.node.Keeps(s.owner, s.key) || slices.ContainsFunc(lower, s.sameHint), FindHint, 0)
	return n.list
}

// howMany tells how many readable pages are of a kind.
func howMany(sheets []sheet, kind int) int {
	many := 0
	for _, s := range sheets {
		if s.kind == kind {
			many++
		}
	}
	return many
}

func (s sheet) sameKey(t sheet) bool { return t.kind == page.KindKey && t.key == s.key }

// sameHint: one of the same name, whatever else it says.
func (s sheet) sameHint(t sheet) bool {
	return t.kind == page.KindHint && t.owner == s.owner && t.key == s.key && t.writes[0].Dot == s.writes[0].Dot
}

// covers tells whether another right write of the page covers its i-th one.
func (s sheet) covers(i int) bool {
	for j, t := range s.writes {
		if j != i && t.right && sibs.Covers(t.Write, s.writes[i].Write) {
			return true
		}
	}
	return false
}

// knows tells whether the clock of a range has a dot.
func knows(clocks []api.Clock, rng int, d api.Dot) bool {
	return slices.ContainsFunc(clocks, func(k api.Clock) bool { return k.Range == rng && dotset.Has(k.Set, d) })
}

// stands tells whether pages of keys of a range have a right write of a dot.
func stands(sheets []sheet, rng int, d api.Dot) bool {
	named := func(w entry) bool { return w.right && w.Dot == d }
	return slices.ContainsFunc(sheets, func(s sheet) bool {
		return s.kind == page.KindKey && s.rng == rng && slices.ContainsFunc(s.writes, named)
	})
}
