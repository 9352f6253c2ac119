package store

import (
	"slices"

	"rookery/api"
	"rookery/dotset"
	"rookery/page"
	"rookery/pagefile"
	"rookery/sibs"
)

// endHints is the first page behind those of hints: no store has one from there on.
const endHints = api.FirstHint + api.MaxHints

// empty tells the content of a page file without pages.
func (r rules) empty() content {
	c := content{keys: map[string]stored{}, hints: map[name]kept{}}
	for rng := range r.Config.Ranges {
		if r.Prefers(rng, r.Me) {
			c.clocks = append(c.clocks, api.Clock{Range: rng})
		}
	}
	return c
}

// load tells what the pages of a file have; false, if they don't fit.
func (r rules) load(f *pagefile.File) (content, bool) {
	c := r.empty()
	pages := f.Pages()
	if len(pages) > 0 && pages[0] != 0 {
		return content{}, false
	}
	for _, n := range pages {
		b, _ := f.Page(n)
		v, err := page.Open(b)
		if err != api.OK || !r.loadPage(&c, n, v) {
			return content{}, false
		}
	}
	return c, len(c.keys) <= r.Config.Keys && len(c.hints) <= r.Config.Hints && r.knowsAll(c)
}

// loadPage takes a page into the content; false, if it doesn't fit to what was taken already.
func (r rules) loadPage(c *content, n int, v *page.View) bool {
	switch {
	case n == 0:
		return v.Kind() == page.KindClocks && r.loadClocks(c, v)
	case n < api.FirstHint:
		return v.Kind() == page.KindKey && r.loadKey(c, n, v)
	case n < endHints:
		return v.Kind() == page.KindHint && r.loadHint(c, n, v)
	}
	return false
}

func (r rules) loadClocks(c *content, v *page.View) bool {
	c.gen = v.Gen()
	for i := range v.Len() {
		k, err := v.Clock(i)
		at := c.clockAt(k.Range)
		if err != api.OK || at < 0 || len(k.Set) == 0 || !r.isSet(k.Set) {
			return false
		}
		c.clocks[at] = k
	}
	return true
}

func (r rules) loadKey(c *content, n int, v *page.View) bool {
	var list []api.Write
	for i := range v.Len() {
		w, err := v.Write(i)
		if err != api.OK || !r.isRight(w) {
			return false
		}
		list = append(list, w)
	}
	key := string(v.Key())
	_, twice := c.keys[key]
	c.keys[key] = stored{page: n, sibs: list}
	return !twice && r.Minds(key) && len(list) <= r.Config.Siblings && sibs.Valid(list, r.Config.Gap)
}

func (r rules) loadHint(c *content, n int, v *page.View) bool {
	w, err := v.Write(0)
	h := name{owner: v.Owner(), key: w.Key, dot: w.Dot}
	_, twice := c.hints[h]
	c.hints[h] = kept{page: n, write: w}
	return err == api.OK && !twice && r.isRight(w) && r.Keeps(h.owner, h.key)
}

// knowsAll tells whether each clock has the dots of its range's siblings, and no two of these are one.
func (r rules) knowsAll(c content) bool {
	for _, k := range c.clocks {
		list := r.siblings(c, k.Range)
		for i, w := range list {
			if !dotset.Has(k.Set, w.Dot) || i > 0 && w.Dot == list[i-1].Dot {
				return false
			}
		}
	}
	return true
}

// siblings tells those of all keys of a range, by rising dots.
func (r rules) siblings(c content, rng int) []api.Write {
	var list []api.Write
	for key, k := range c.keys {
		if r.Ring.Range(key) == rng {
			list = append(list, k.sibs...)
		}
	}
	slices.SortFunc(list, byDots)
	return list
}
