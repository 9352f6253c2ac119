package fsck

import (
	"bytes"
	"encoding/binary"
	"slices"
	"sort"

	"rookery/api"
	"rookery/page"
	"rookery/ring"
)

// What follows is the chapter as plain loops over plain lists, one page behind the other.

func plainOrder(c api.Config, rng int) []int {
	r, _ := ring.New(c.Nodes, c.Ranges)
	order, _ := r.Order(rng)
	return order
}

func plainPrefers(c api.Config, rng, node int) bool {
	at := slices.Index(plainOrder(c, rng), node)
	return at >= 0 && at < c.Prefer
}

func plainRange(c api.Config, key string) int {
	return int(ring.Hash([]byte(key))) % c.Ranges
}

// plainDots: whether a list is a set of the config; and a question that it answers.
func plainDots(c api.Config, s []api.Span) (func(d api.Dot) bool, bool) {
	fine := true
	for i, x := range s {
		fine = fine && x.Node >= 0 && x.Node < c.Nodes && (i == 0 || s[i-1].Node < x.Node) && x.Base >= 0 && x.Base <= c.Count && (x.Base > 0 || x.Bits > 0)
		for b := range 64 {
			if x.Bits>>b&1 == 1 {
				fine = fine && b > 0 && b < c.Gap && x.Base+1+b <= c.Count
			}
		}
	}
	return func(d api.Dot) bool {
		for _, x := range s {
			beyond := d.Count - x.Base - 1
			if x.Node == d.Node && d.Count >= 1 && (beyond < 0 || beyond < 64 && x.Bits>>beyond&1 == 1) {
				return true
			}
		}
		return false
	}, fine
}

func plainRight(c api.Config, w api.Write) bool {
	has, fine := plainDots(c, w.Ctx)
	return fine && !has(w.Dot) && w.Dot.Node >= 0 && w.Dot.Node < c.Nodes && w.Dot.Count > 0 && w.Dot.Count <= c.Count && len(w.Key) > 0 && len(w.Key) < 17 && len(w.Value) < 65 && (!w.Dead || len(w.Value) == 0)
}

func plainCovers(t, w api.Write) bool {
	has, _ := plainDots(widest(), t.Ctx)
	return t.Key == w.Key && has(w.Dot)
}

// plainRoot: the number and the pages' slots of a sector; false, if it is no good root there.
func plainRoot(b []byte, sector uint64) (uint64, map[int]int, bool) {
	slots := map[int]int{}
	if bytes.Count(b, []byte{0}) == 512 {
		return 0, slots, true
	}
	seq := binary.LittleEndian.Uint64(b[1:])
	used := map[int]int{}
	for n := range 100 {
		if s := int(b[9+n]); s > 0 {
			slots[n] = s - 1
			used[s]++
			if used[s] > 1 || s > 200 {
				return 0, nil, false
			}
		}
	}
	good := b[0] == 82 && seq >= 1 && seq <= 1<<62 && seq%2 == sector && bytes.Count(b[109:504], []byte{0}) == 395 && binary.LittleEndian.Uint64(b[504:]) == seq
	return seq, slots, good
}

// plainPages: the pages of an image; nil, if no root is good.
func plainPages(image []byte) pages {
	zero, p, good := plainRoot(image[:512], 0)
	one, q, better := plainRoot(image[512:1024], 1)
	switch {
	case !good && !better:
		return nil
	case !good || better && one > zero:
		p = q
	}
	out := pages{}
	for n, s := range p {
		out[n] = image[4096+2048*s : 4096+2048*s+2048]
	}
	return out
}

// plainFsck goes over an image once.
type plainFsck struct {
	c     api.Config
	me    int
	finds []api.Finding
	state api.State
	known map[int]api.Clock
	keys  map[string]int   // of pages that are readable
	dots  map[[3]int]int   // range, node, count of their right writes
	names map[string][]int // of the hints' keys: owner, node, count
	many  [2]int           // readable pages of keys, of hints
}

func plainLook(image []byte, c api.Config, me int) *plainFsck {
	f := &plainFsck{c: c, me: me, known: map[int]api.Clock{}, keys: map[string]int{}, dots: map[[3]int]int{}, names: map[string][]int{}}
	p := plainPages(image)
	if p == nil {
		f.note(FindRoot, -1, 0)
	} else if len(p) > 0 && p[0] == nil {
		f.note(FindKind, 0, 0)
	}
	for n := range 100 {
		if p[n] != nil {
			f.page(n, p[n])
		}
	}
	for rng := range c.Ranges {
		if plainPrefers(c, rng, me) {
			f.state.Clocks = append(f.state.Clocks, api.Clock{Range: rng, Set: f.known[rng].Set})
		}
	}
	sort.Slice(f.state.Keys, func(i, j int) bool { return f.state.Keys[i][0].Key < f.state.Keys[j][0].Key })
	sort.Slice(f.state.Hints, func(i, j int) bool { return plainBefore(f.state.Hints[i], f.state.Hints[j]) })
	return f
}

func plainBefore(a, b api.Hint) bool {
	switch {
	case a.Owner != b.Owner:
		return a.Owner < b.Owner
	case a.Write.Key != b.Write.Key:
		return a.Write.Key < b.Write.Key
	}
	return plainLess(a.Write.Dot, b.Write.Dot)
}

func plainLess(a, b api.Dot) bool {
	return a.Node < b.Node || a.Node == b.Node && a.Count < b.Count
}

func (f *plainFsck) note(kind, page, at int) bool {
	f.finds = append(f.finds, find(kind, page, at))
	return true
}

func (f *plainFsck) page(n int, b []byte) {
	kind, at, err := page.Check(b)
	if err != api.OK {
		f.note(FindPage, n, at)
		return
	}
	v, _ := page.Open(b)
	switch {
	case n == 0 && kind == 1:
		f.clocks(v)
	case n >= 1 && n <= 64 && kind == 2:
		f.key(n, v)
	case n >= 65 && n <= 96 && kind == 3:
		f.hint(n, v)
	default:
		f.note(FindKind, n, 0)
	}
}

func (f *plainFsck) clocks(v *page.View) {
	f.state.Gen = v.Gen()
	for i := range v.Len() {
		k, _ := v.Clock(i)
		_, fine := plainDots(f.c, k.Set)
		if k.Range >= f.c.Ranges || !plainPrefers(f.c, k.Range, f.me) || !fine || len(k.Set) == 0 {
			f.note(FindClock, 0, i)
			continue
		}
		f.known[k.Range] = k
	}
}

func (f *plainFsck) key(n int, v *page.View) {
	key := string(v.Key())
	rng := plainRange(f.c, key)
	aside := false
	if f.many[0]++; f.many[0] > f.c.Keys {
		aside = f.note(FindMany, n, 0)
	}
	if f.keys[key]++; f.keys[key] > 1 || !plainPrefers(f.c, rng, f.me) {
		aside = f.note(FindKey, n, 0)
	}
	if v.Len() > f.c.Siblings {
		f.note(FindSiblings, n, f.c.Siblings)
	}
	var all, left []api.Write
	for i := range v.Len() {
		w, _ := v.Write(i)
		all = append(all, w)
	}
	for i, w := range all {
		if !plainRight(f.c, w) {
			f.note(FindWrite, n, i)
			continue
		}
		wrong := false
		for j, t := range all {
			if i != j && plainRight(f.c, t) && plainCovers(t, w) {
				wrong = true
			}
		}
		if wrong {
			f.note(FindCover, n, i)
		}
		has, _ := plainDots(f.c, f.known[rng].Set)
		name := [3]int{rng, w.Dot.Node, w.Dot.Count}
		if f.dots[name]++; f.dots[name] > 1 || !has(w.Dot) {
			wrong = f.note(FindDot, n, i)
		}
		if !wrong && !aside && len(left) < f.c.Siblings {
			left = append(left, w)
		}
	}
	if len(left) > 0 {
		f.state.Keys = append(f.state.Keys, left)
	}
}

func (f *plainFsck) hint(n int, v *page.View) {
	w, _ := v.Write(0)
	owner := v.Owner()
	was := len(f.finds)
	if f.many[1]++; f.many[1] > f.c.Hints {
		f.note(FindMany, n, 0)
	}
	if !plainRight(f.c, w) {
		f.note(FindWrite, n, 0)
	}
	twice := false
	for name := range slices.Chunk(f.names[w.Key], 3) {
		twice = twice || slices.Equal(name, []int{owner, w.Dot.Node, w.Dot.Count})
	}
	f.names[w.Key] = append(f.names[w.Key], owner, w.Dot.Node, w.Dot.Count)
	rng := plainRange(f.c, w.Key)
	if twice || owner >= f.c.Nodes || owner == f.me || !plainPrefers(f.c, rng, owner) || plainPrefers(f.c, rng, f.me) {
		f.note(FindHint, n, 0)
	}
	if len(f.finds) == was {
		f.state.Hints = append(f.state.Hints, api.Hint{Owner: owner, Write: w})
	}
}

// plainSalvage: the writes of all slots by keys and dots, told one behind the other.
func plainSalvage(image []byte, c api.Config) []api.Write {
	var keys []string
	by := map[string][]api.Write{}
	for b := range slices.Chunk(image[4096:], 2048) {
		v, err := page.Open(b)
		if err != api.OK {
			continue
		}
		for i := range v.Len() {
			w, err := v.Write(i)
			if err != api.OK || !plainRight(c, w) {
				continue
			}
			if by[w.Key] == nil {
				keys = append(keys, w.Key)
			}
			by[w.Key] = plainInsert(by[w.Key], w)
		}
	}
	sort.Strings(keys)
	var out []api.Write
	for _, k := range keys {
		out = append(out, by[k]...)
	}
	return out
}

// plainInsert: behind all of no greater dot, unless the same is there.
func plainInsert(l []api.Write, w api.Write) []api.Write {
	at := 0
	for i, t := range l {
		if show(t) == show(w) {
			return l
		}
		if !plainLess(w.Dot, t.Dot) {
			at = i + 1
		}
	}
	return slices.Insert(l, at, w)
}
