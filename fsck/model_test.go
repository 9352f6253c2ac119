package fsck

import (
	"bytes"
	"fmt"
	"math/rand"
	"slices"
	"testing"

	"rookery/api"
	"rookery/page"
)

// anyConfig: a small one, so that its limits are met.
func anyConfig(r *rand.Rand) api.Config {
	nodes := 1 + r.Intn(5)
	return api.Config{Nodes: nodes, Prefer: 1 + r.Intn(min(nodes, 3)), Ranges: 1 + r.Intn(4), Siblings: 1 + r.Intn(4), Gap: 1 + r.Intn(6), Count: 3 + r.Intn(12), Keys: 1 + r.Intn(5), Hints: r.Intn(5), Bag: 9}
}

// dealer makes parts of images: mostly such as a config allows, now and then others.
type dealer struct {
	*rand.Rand
	c    api.Config
	odds int // of so many parts one may be wrong
}

func (d *dealer) odd() bool { return d.Intn(d.odds) == 0 }

// set: what a page takes as one: for the gap 64.
func (d *dealer) set(most int) []api.Span {
	var s []api.Span
	for node := range d.c.Nodes {
		if d.Intn(2) == 0 {
			continue
		}
		x := api.Span{Node: node, Base: d.Intn(most + 1)}
		for range d.Intn(3) {
			if beyond := 2 + d.Intn(d.c.Gap); beyond <= d.c.Gap && x.Base+beyond <= d.c.Count {
				x.Bits |= 1 << (beyond - 1)
			}
		}
		if x.Base > 0 || x.Bits > 0 {
			s = append(s, x)
		}
	}
	if d.odd() {
		wrong := []api.Span{{Node: d.c.Nodes + d.Intn(8-d.c.Nodes), Base: 1}, {Node: 7, Base: d.c.Count + 1}, {Node: 7, Bits: 1 << (d.c.Gap + d.Intn(4))}}
		s = append(slices.DeleteFunc(s, func(x api.Span) bool { return x.Node >= d.c.Nodes }), wrong[d.Intn(3)])
		if d.odd() && len(s) > 1 {
			s[0].Base = d.c.Count + 1
		}
	}
	return s
}

// known: a clock that has most dots.
func (d *dealer) known() []api.Span {
	var s []api.Span
	for node := range d.c.Nodes {
		top := min(d.c.Count, 2+d.Intn(d.c.Count))
		if d.Intn(6) > 0 {
			s = append(s, api.Span{Node: node, Base: top})
		}
	}
	return s
}

var modelKeys = []string{"a", "b", "c", "d", "e", "f", "g", "h", "i", "j", "k", "l", "k\x00", "\xff", "a longer key", "sixteen bytes ok"}

func (d *dealer) key() string { return modelKeys[d.Intn(len(modelKeys))] }

// keyOf: a key that a node minds, or one that it does not.
func (d *dealer) keyOf(me int, minds bool) string {
	key := d.key()
	for range 30 {
		if plainPrefers(d.c, plainRange(d.c, key), me) == minds {
			break
		}
		key = d.key()
	}
	return key
}

func (d *dealer) write(key string) api.Write {
	w := api.Write{Dot: dot(d.Intn(d.c.Nodes), 1+d.Intn(d.c.Count)), Key: key}
	if d.odd() {
		w.Dot = dot(d.Intn(8), 1+d.Intn(d.c.Count+2))
	}
	if w.Dead = d.Intn(4) == 0; !w.Dead {
		w.Value = []byte("value")[:d.Intn(6)]
	}
	if d.Intn(3) == 0 {
		w.Ctx = d.set(2)
	}
	has, _ := plainDots(d.c, w.Ctx)
	if has(w.Dot) {
		w.Ctx = nil
	}
	return w
}

// siblings: some writes of a key, their dots rising.
func (d *dealer) siblings(key string) []api.Write {
	var l []api.Write
	for range 1 + d.Intn(min(8, d.c.Siblings+1)) {
		w := d.write(key)
		if !slices.ContainsFunc(l, func(t api.Write) bool { return t.Dot == w.Dot }) {
			l = append(l, w)
		}
	}
	slices.SortFunc(l, byKeys)
	return l
}

// pages: those of a node, with whatever may be wrong with them.
func (d *dealer) pages(me int) pages {
	p := pages{}
	if !d.odd() {
		var l []api.Clock
		for rng := range min(16, d.c.Ranges+1) {
			if rng < d.c.Ranges && plainPrefers(d.c, rng, me) || d.odd() {
				k := cl(rng, d.known()...)
				if d.odd() {
					k.Set = d.set(d.c.Count)
				}
				if len(k.Set) > 0 || d.odd() {
					l = append(l, k)
				}
			}
		}
		p[0] = clockPage(d.Intn(1000), l...)
	}
	for range d.Intn(d.c.Keys + 1 + d.Intn(2)) {
		p[1+d.Intn(8)] = keyPage(d.siblings(d.keyOf(me, !d.odd()))...)
	}
	for range d.Intn(d.c.Hints + 1 + d.Intn(2)) {
		key := d.keyOf(me, d.odd())
		order := plainOrder(d.c, plainRange(d.c, key))
		owner := order[d.Intn(d.c.Prefer)]
		if d.odd() {
			owner = d.Intn(8)
		}
		p[65+d.Intn(6)] = hintPage(owner, d.write(key))
	}
	if d.odd() {
		p[d.Intn(100)] = [][]byte{clockPage(1), keyPage(d.siblings("k")...), hintPage(1, d.write("k"))}[d.Intn(3)]
	}
	return p
}

// image: these pages in slots, among what was there earlier, some of it spoilt.
func (d *dealer) image(p pages) []byte {
	b := make([]byte, size)
	slots := d.Perm(200)
	at := map[int]int{}
	for n, x := range p {
		at[n] = slots[len(at)]
		setSlot(b, at[n], x)
	}
	for i := range 4 {
		setSlot(b, slots[190+i], keyPage(d.siblings(d.key())...))
	}
	seq := uint64(2 + d.Intn(1000))
	setRoot(b, int(seq%2), rootOf(seq, at))
	switch d.Intn(4) {
	case 0:
		setRoot(b, int(1-seq%2), rootOf(seq-1, map[int]int{0: slots[195]}))
	case 1:
		setRoot(b, int(1-seq%2), bytes.Repeat([]byte{82}, 512))
	}
	for _, n := range keysOf(at) {
		if d.odd() && d.odd() {
			b[4096+2048*at[n]+d.Intn(40)] ^= byte(1 << d.Intn(8))
		}
	}
	if d.Intn(8) == 0 {
		b[512*(seq%2)+uint64(d.Intn(512))] ^= byte(1 + d.Intn(255))
	}
	return b
}

func keysOf(m map[int]int) []int {
	var l []int
	for n := range 100 {
		if _, ok := m[n]; ok {
			l = append(l, n)
		}
	}
	return l
}

// alikePlain: all three calls against the plain ones.
func alikePlain(t *testing.T, what string, image []byte, c api.Config, me int, met map[int]int) {
	t.Helper()
	plain := plainLook(image, c, me)
	wantFinds(t, what, image, c, me, plain.finds...)
	wantDump(t, what, image, c, me, plain.state)
	wantSalvage(t, what, image, c, me, plainSalvage(image, c)...)
	salvagesAll(t, what, image, c, me)
	agrees(t, what, image, c, me)
	for _, f := range plain.finds {
		met[f.Kind]++
	}
	if len(plain.finds) == 0 {
		met[0]++
	}
	met[100] += len(plain.state.Keys)
	met[101] += len(plain.state.Hints)
}

// TestModel: random images, looked at with their own config and node, and with others.
func TestModel(t *testing.T) {
	met := map[int]int{}
	for seed := range int64(400) {
		r := rand.New(rand.NewSource(seed))
		d := &dealer{Rand: r, c: anyConfig(r), odds: []int{6, 20, 1000}[seed%3]}
		me := r.Intn(d.c.Nodes)
		b := d.image(d.pages(me))
		what := fmt.Sprintf("seed %d, %v, node %d", seed, d.c, me)
		alikePlain(t, what, b, d.c, me, met)
		alikePlain(t, what+", another node", b, d.c, r.Intn(d.c.Nodes), met)
		alikePlain(t, what+", another config", b, anyConfig(r), 0, met)
		if t.Failed() {
			return
		}
	}
	for kind := range 12 {
		if met[kind] < 10 {
			t.Errorf("the kind %d was met %d times", kind, met[kind])
		}
	}
	if met[100] < 400 || met[101] < 200 {
		t.Errorf("what was left: %v", met)
	}
}

// TestModelBytes: bytes of all sorts in place of an image's.
func TestModelBytes(t *testing.T) {
	met := map[int]int{}
	for seed := range int64(100) {
		r := rand.New(rand.NewSource(seed))
		b := make([]byte, size)
		r.Read(b)
		if seed%2 == 0 { // a good root, so that the pages are looked at
			d := &dealer{Rand: r, c: five(), odds: 5}
			at := map[int]int{}
			for i, s := range d.Perm(200)[:50] {
				at[2*i] = s
				setSlot(b, s, []byte{byte(r.Intn(4)), byte(r.Intn(3)), byte(r.Intn(3)), byte(r.Intn(3)), 0, 0, 0, 0})
			}
			setRoot(b, 1, rootOf(9, at))
		}
		alikePlain(t, fmt.Sprint("seed ", seed), b, five(), 2, met)
	}
	if met[FindRoot] != 50 || met[FindPage] < 100 {
		t.Errorf("met: %v", met)
	}
}

// TestModelStates: Rebuild of states that a node can have, and of such with something else in them.
func TestModelStates(t *testing.T) {
	can, cannot := 0, 0
	for seed := range int64(400) {
		r := rand.New(rand.NewSource(seed))
		d := &dealer{Rand: r, c: anyConfig(r), odds: 50}
		me := r.Intn(d.c.Nodes)
		s := plainLook(d.image(d.pages(me)), d.c, me).state
		what := fmt.Sprintf("seed %d, %v, node %d", seed, d.c, me)
		wantImage(t, what, s, d.c, me)
		for range 4 {
			x := d.edited(s)
			if !plainCanHave(x, d.c, me) {
				cannot++
				wantNoImage(t, what, x, d.c, me)
				continue
			}
			can++
			wantImage(t, what+", changed", x, d.c, me)
		}
		if t.Failed() {
			return
		}
	}
	if can < 200 || cannot < 200 {
		t.Errorf("%d states can be, %d cannot", can, cannot)
	}
}

// edited: a state with one thing or two changed.
func (d *dealer) edited(s api.State) api.State {
	x := copyState(s)
	for range 1 + d.Intn(2) {
		switch d.Intn(12) {
		case 0:
			x.Gen = []int{0, 1, -1, 1<<48 - 1, 1 << 48}[d.Intn(5)]
		case 1:
			x.Clocks = append(x.Clocks, cl(d.Intn(d.c.Ranges+1), d.set(3)...))
		case 2:
			if len(x.Clocks) > 0 {
				x.Clocks[d.Intn(len(x.Clocks))].Set = d.set(d.c.Count)
			}
		case 3:
			if len(x.Clocks) > 0 {
				at := d.Intn(len(x.Clocks))
				x.Clocks = slices.Delete(x.Clocks, at, at+1)
			}
		case 4, 5:
			x.Keys = append(x.Keys, d.siblings(d.key()))
			slices.SortStableFunc(x.Keys, func(a, b []api.Write) int { return byKeys(of(key(a), api.Write{}), of(key(b), api.Write{})) })
		case 6:
			if len(x.Keys) > 0 {
				at := d.Intn(len(x.Keys))
				x.Keys[at] = append(x.Keys[at], d.write(key(x.Keys[at])))
				slices.SortStableFunc(x.Keys[at], byKeys)
			}
		case 7:
			if len(x.Keys) > 0 {
				at := d.Intn(len(x.Keys))
				x.Keys[at] = x.Keys[at][:d.Intn(len(x.Keys[at])+1)]
			}
		case 8:
			if len(x.Keys) > 1 {
				x.Keys[0], x.Keys[1] = x.Keys[1], x.Keys[0]
			}
		case 9, 10:
			key := d.key()
			x.Hints = sortedHints(append(x.Hints, hint(plainOrder(d.c, plainRange(d.c, key))[0], d.write(key))))
		case 11:
			if len(x.Hints) > 0 {
				x.Hints[d.Intn(len(x.Hints))].Owner = d.Intn(d.c.Nodes + 1)
			}
		}
	}
	return x
}

// key: of a list of writes, which may have none.
func key(l []api.Write) string {
	if len(l) == 0 {
		return ""
	}
	return l[0].Key
}

// copyState: in memory of its own, as far as edited changes it.
func copyState(s api.State) api.State {
	s.Clocks, s.Hints, s.Keys = slices.Clone(s.Clocks), slices.Clone(s.Hints), slices.Clone(s.Keys)
	for i, l := range s.Keys {
		s.Keys[i] = slices.Clone(l)
	}
	return s
}

// plainCanHave: P2008, one clause behind the other; the pages that come of the state, in any order, must have no finding, and the state be in order.
func plainCanHave(s api.State, c api.Config, me int) bool {
	if s.Gen < 0 || s.Gen >= 1<<48 || len(s.Keys) > c.Keys || len(s.Hints) > c.Hints {
		return false
	}
	known := map[int][]api.Span{}
	for i, k := range s.Clocks {
		_, fine := plainDots(c, k.Set)
		if !fine || k.Range >= c.Ranges || !plainPrefers(c, k.Range, me) || i > 0 && s.Clocks[i-1].Range >= k.Range {
			return false
		}
		known[k.Range] = k.Set
	}
	met := map[[3]int]int{}
	for i, l := range s.Keys {
		if len(l) == 0 || len(l) > c.Siblings || i > 0 && s.Keys[i-1][0].Key >= l[0].Key || !plainPrefers(c, plainRange(c, l[0].Key), me) {
			return false
		}
		for j, w := range l {
			rng := plainRange(c, w.Key)
			has, _ := plainDots(c, known[rng])
			name := [3]int{rng, w.Dot.Node, w.Dot.Count}
			if met[name]++; w.Key != l[0].Key || !plainRight(c, w) || !has(w.Dot) || met[name] > 1 || j > 0 && !plainLess(l[j-1].Dot, w.Dot) {
				return false
			}
			for k, t := range l {
				if k != j && plainCovers(t, w) {
					return false
				}
			}
		}
	}
	for i, h := range s.Hints {
		rng := plainRange(c, h.Write.Key)
		if !plainRight(c, h.Write) || h.Owner >= c.Nodes || h.Owner == me || !plainPrefers(c, rng, h.Owner) || plainPrefers(c, rng, me) || i > 0 && !plainBefore(s.Hints[i-1], h) {
			return false
		}
	}
	return true
}

// TestModelPages: what the dealer deals is what pages take, but where it is spoilt.
func TestModelPages(t *testing.T) {
	r := rand.New(rand.NewSource(1))
	for range 200 {
		d := &dealer{Rand: r, c: anyConfig(r), odds: 3}
		for n, b := range d.pages(0) {
			if _, at, err := page.Check(b); err != api.OK {
				t.Fatalf("page %d is wrong at %d", n, at)
			}
		}
	}
}
