package store

import (
	"math/rand"
	"slices"
	"testing"

	"rookery/api"
	"rookery/disk"
	"rookery/dotset"
	"rookery/sibs"
)

// asked: a key, and the token of somebody who has asked some nodes for it.
type asked struct {
	key   string
	token []api.Span
}

// shipment: what a node has told another one of a range.
type shipment struct {
	to, rng int
	set     []api.Span
	writes  []api.Write
}

// flock: stores of one config, and all that was made and told among them.
type flock struct {
	c      api.Config
	plain  *plain // for its ring alone
	disks  []*disk.Disk
	stores []*Store
	asks   []asked
	made   []api.Write
	ships  []shipment
	met    map[api.Errno]int
}

func newFlock(t *testing.T, c api.Config) *flock {
	t.Helper()
	f := &flock{c: c, plain: newPlain(c, 0), met: map[api.Errno]int{}}
	for me := range c.Nodes {
		s, d := fresh(t, c, me)
		f.stores, f.disks = append(f.stores, s), append(f.disks, d)
	}
	return f
}

// preferred: the nodes that a range prefers.
func (f *flock) preferred(rng int) []int {
	var l []int
	for node := range f.c.Nodes {
		if f.plain.prefers(rng, node) {
			l = append(l, node)
		}
	}
	return l
}

// ask asks some of the key's nodes, at least one.
func (f *flock) ask(t *testing.T, r *rand.Rand, key string) {
	t.Helper()
	rng := f.plain.rangeOf(key)
	nodes := f.preferred(rng)
	r.Shuffle(len(nodes), func(i, j int) { nodes[i], nodes[j] = nodes[j], nodes[i] })
	var told [][]api.Write
	var bases [][]api.Span
	for _, node := range nodes[:1+r.Intn(len(nodes))] {
		told = append(told, f.stores[node].Read(key))
		bases = append(bases, dotset.Bases(f.stores[node].Clock(rng)))
	}
	token, out := sibs.Token(told, bases, f.c.Gap)
	if len(out) > 0 {
		t.Fatal("a token that does not hold all")
	}
	f.asks = append(f.asks, asked{key, token})
}

// mint makes a write of a key, with what an ask has told, or with nothing.
func (f *flock) mint(r *rand.Rand) {
	a := asked{key: string(rune('a' + r.Intn(6)))}
	if len(f.asks) > 0 && r.Intn(4) > 0 {
		a = oneOf(r, f.asks[max(0, len(f.asks)-6):]...)
	}
	node := oneOf(r, f.preferred(f.plain.rangeOf(a.key))...)
	w, err := f.stores[node].Mint(a.key, r.Intn(5) == 0, nil, a.token)
	f.met[err]++
	if err == api.OK {
		f.made = append(f.made, w)
	}
}

// hand hands a write that was made to one of its nodes.
func (f *flock) hand(r *rand.Rand) {
	if len(f.made) == 0 {
		return
	}
	w := oneOf(r, f.made...)
	node := oneOf(r, f.preferred(f.plain.rangeOf(w.Key))...)
	_, err := f.stores[node].Merge(w)
	f.met[err]++
}

// tell: a node tells what another one lacks of a range, or all that it has, as one that knows nothing is told.
func (f *flock) tell(r *rand.Rand) {
	rng := r.Intn(f.c.Ranges)
	from, to := f.stores[oneOf(r, f.preferred(rng)...)], oneOf(r, f.preferred(rng)...)
	lacks := cl(rng)
	if r.Intn(3) > 0 {
		lacks.Set = f.stores[to].Clock(rng)
	}
	f.ships = append(f.ships, shipment{to, rng, from.Clock(rng), from.Missing(clocks(lacks))[0]})
}

// take: a shipment comes, the last one or one of long ago, perhaps again.
func (f *flock) take(r *rand.Rand) {
	if len(f.ships) == 0 {
		return
	}
	x := oneOf(r, f.ships[len(f.ships)-1], oneOf(r, f.ships...))
	_, err := f.stores[x.to].Take(x.rng, x.set, x.writes)
	f.met[err]++
}

// restart: the power fails while a write is handed to a node, or nowhere.
func (f *flock) restart(t *testing.T, r *rand.Rand) {
	t.Helper()
	node := r.Intn(f.c.Nodes)
	d := f.disks[node]
	d.Arm(r.Intn(12), r.Intn(513))
	if len(f.made) > 0 {
		_, err := f.stores[node].Merge(oneOf(r, f.made...))
		f.met[err]++
	}
	d.Off()
	d.On()
	f.stores[node] = opened(t, d, f.c, node)
}

func (f *flock) step(t *testing.T, r *rand.Rand) {
	t.Helper()
	switch r.Intn(10) {
	case 0, 1:
		f.ask(t, r, string(rune('a'+r.Intn(6))))
	case 2, 3, 4:
		f.mint(r)
	case 5, 6:
		f.hand(r)
	case 7:
		f.tell(r)
	case 8:
		f.take(r)
	case 9:
		f.restart(t, r)
	}
}

// check: P913, at every node, of every key.
func (f *flock) check(t *testing.T) {
	t.Helper()
	for node, s := range f.stores {
		for k := range 6 {
			key := string(rune('a' + k))
			clock := s.Clock(f.plain.rangeOf(key))
			var known, want []api.Write
			for _, w := range f.made {
				if w.Key == key && dotset.Has(clock, w.Dot) {
					known = append(known, w)
				}
			}
			for _, w := range known {
				if !slices.ContainsFunc(known, func(u api.Write) bool { return f.plain.covers(u, w) }) {
					want = append(want, w)
				}
			}
			slices.SortFunc(want, rising)
			wantWrites(t, "node "+string(rune('0'+node))+", key "+key, s.Read(key), want...)
		}
	}
}

// TestP913Stories: random stories among the nodes of several configs.
func TestP913Stories(t *testing.T) {
	met := map[api.Errno]int{}
	for seed := range int64(60) {
		r := rand.New(rand.NewSource(seed))
		c := api.Config{Nodes: 1 + r.Intn(5), Ranges: 1 + r.Intn(3), Siblings: 2 + r.Intn(7), Gap: 64, Count: 1000, Keys: 5 + r.Intn(2), Hints: 4, Bag: 9}
		c.Prefer = 1 + r.Intn(min(3, c.Nodes))
		f := newFlock(t, c)
		for i := range 120 {
			f.step(t, r)
			if i%4 == 0 {
				f.check(t)
			}
		}
		f.rest(t)
		f.check(t)
		if t.Failed() {
			t.Fatalf("seed %d, config %+v", seed, c)
		}
		for err, n := range f.met {
			met[err] += n
		}
	}
	if met[api.OK] < 1000 || met[api.ErrSiblings] < 10 || met[api.ErrKeys] < 10 || met[api.ErrDown] < 10 {
		t.Errorf("what the calls answered: %v", met)
	}
}

// rest: each node takes over from each other one; where none was refused, equal clocks have equal siblings.
func (f *flock) rest(t *testing.T) {
	t.Helper()
	refused := false
	for range 2 {
		for rng := range f.c.Ranges {
			for _, to := range f.preferred(rng) {
				for _, from := range f.preferred(rng) {
					p, q := f.stores[to], f.stores[from]
					_, err := p.Take(rng, q.Clock(rng), q.Missing(clocks(cl(rng, p.Clock(rng)...)))[0])
					refused = refused || err != api.OK
				}
			}
		}
	}
	if refused {
		return
	}
	for rng := range f.c.Ranges {
		nodes := f.preferred(rng)
		one := f.stores[nodes[0]]
		for _, node := range nodes[1:] {
			wantClock(t, "at rest", f.stores[node], rng, one.Clock(rng)...)
			wantWrites(t, "at rest", f.stores[node].Missing(clocks(cl(rng)))[0], one.Missing(clocks(cl(rng)))[0]...)
		}
	}
}
