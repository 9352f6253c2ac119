package store

import (
	"bytes"
	"cmp"
	"maps"
	"slices"

	"rookery/api"
	"rookery/page"
	"rookery/sibs"
)

// content is what a store has. It is never changed in place: a call makes the next one, and only behind its commit that one counts.
type content struct {
	gen    int
	clocks []api.Clock // of all ranges that prefer the node, rising, also those without dots
	keys   map[string]stored
	hints  map[name]kept
}

// stored is a key's siblings, by rising dots, and their page.
type stored struct {
	page int
	sibs []api.Write
}

// name is what tells hints apart.
type name struct {
	owner int
	key   string
	dot   api.Dot
}

// kept is the write of a hint, and its page.
type kept struct {
	page  int
	write api.Write
}

// next tells a content to begin with; what lies within its lists is shared, as it is never changed.
func (c content) next() content {
	return content{gen: c.gen, clocks: slices.Clone(c.clocks), keys: maps.Clone(c.keys), hints: maps.Clone(c.hints)}
}

// clockAt tells where the clock of a range stands; -1, if the range does not prefer the node.
func (c content) clockAt(rng int) int {
	return slices.IndexFunc(c.clocks, func(k api.Clock) bool { return k.Range == rng })
}

// merge merges a write into its key's siblings: ErrKeys, if there are as many keys already; ErrSiblings, if more than limit were left.
func (c content) merge(w api.Write, keys, limit int) api.Errno {
	k, ok := c.keys[w.Key]
	if !ok {
		if len(c.keys) >= keys {
			return api.ErrKeys
		}
		k.page = c.freePage(api.FirstKey)
	}
	left, err := sibs.Merge(k.sibs, w, limit)
	if err != api.OK {
		return err
	}
	c.keys[w.Key] = stored{page: k.page, sibs: left}
	return api.OK
}

// freePage tells the least page from one on that there is not.
func (c content) freePage(from int) int {
	var used [api.Pages]bool
	for _, k := range c.keys {
		used[k.page] = true
	}
	for _, h := range c.hints {
		used[h.page] = true
	}
	n := from
	for used[n] {
		n++
	}
	return n
}

// changes tells what a commit must change, so that the next content stands on the disk. Their order is nothing: a page file has its own.
func (c content) changes(next content) []api.Change {
	var list []api.Change
	if c.gen != next.gen || !slices.EqualFunc(c.clocks, next.clocks, sameClock) {
		list = append(list, api.Change{Page: 0, Data: next.clockPage()})
	}
	for key, k := range next.keys {
		if !slices.EqualFunc(c.keys[key].sibs, k.sibs, sibs.Same) {
			list = append(list, api.Change{Page: k.page, Data: keyPage(k.sibs)})
		}
	}
	for n, h := range next.hints {
		if _, was := c.hints[n]; !was {
			list = append(list, api.Change{Page: h.page, Data: hintPage(n.owner, h.write)})
		}
	}
	for n, h := range c.hints {
		if _, stays := next.hints[n]; !stays {
			list = append(list, api.Change{Page: h.page})
		}
	}
	return list
}

// clockPage tells page 0. Here as below a page is never refused: what is stored has been looked at by the config, whose limits are within those of pages.
func (c content) clockPage() []byte {
	clocks := slices.DeleteFunc(slices.Clone(c.clocks), func(k api.Clock) bool { return len(k.Set) == 0 })
	b, _ := page.BuildClocks(c.gen, clocks)
	return b
}

func keyPage(list []api.Write) []byte {
	b, _ := page.BuildKey(list)
	return b
}

func hintPage(owner int, w api.Write) []byte {
	b, _ := page.BuildHint(api.Hint{Owner: owner, Write: w})
	return b
}

func sameClock(a, b api.Clock) bool { return a.Range == b.Range && slices.Equal(a.Set, b.Set) }

// byDots orders writes by rising dots.
func byDots(a, b api.Write) int { return compareDots(a.Dot, b.Dot) }

func compareDots(a, b api.Dot) int {
	return cmp.Or(cmp.Compare(a.Node, b.Node), cmp.Compare(a.Count, b.Count))
}

// byNames orders hints by rising owners, keys, dots.
func byNames(a, b api.Hint) int {
	return cmp.Or(cmp.Compare(a.Owner, b.Owner), cmp.Compare(a.Write.Key, b.Write.Key), byDots(a.Write, b.Write))
}

// copyOf tells a write in new memory.
func copyOf(w api.Write) api.Write {
	w.Value, w.Ctx = bytes.Clone(w.Value), slices.Clone(w.Ctx)
	return w
}

func copies(list []api.Write) []api.Write {
	list = slices.Clone(list)
	for i, w := range list {
		list[i] = copyOf(w)
	}
	return list
}
