package session

import (
	"math/rand"
	"slices"
	"testing"

	"rookery/api"
	"rookery/disk"
	"rookery/dotset"
	"rookery/node"
	"rookery/pagefile"
	"rookery/wire"
)

// client: a session, and all that it was ever shown of each key.
type client struct {
	*Session
	seen map[string][]api.Write
}

// begun: whose call it is, where, and of what.
type begun struct {
	by   *client
	node int
	key  string
	put  bool
}

// tale: real nodes, messages that are lost and late, and clients that call them.
type tale struct {
	t       *testing.T
	r       *rand.Rand
	c       api.Config
	nodes   []*node.Node
	bag     []api.Msg
	clients []*client
	calls   []begun // the call 1 stands first
	tokens  map[int][]api.Span
	taken   int // answers of reads that were accepted though others had written over what was seen
	stale   int
}

func newTale(t *testing.T, seed int64) *tale {
	c := api.Config{Nodes: 5, Prefer: 3, Ranges: 2, Siblings: 8, Gap: 64, Count: 1000, Keys: 9, Hints: 32, Bag: 200}
	x := &tale{t: t, r: rand.New(rand.NewSource(seed)), c: c, tokens: map[int][]api.Span{}}
	for me := range c.Nodes {
		d, _ := disk.New(pagefile.Sectors)
		n, err := node.Open(c, me, d)
		if err != api.OK {
			t.Fatalf("Open of node %d: %d", me, err)
		}
		x.nodes = append(x.nodes, n)
	}
	for i := range 4 {
		x.clients = append(x.clients, &client{Session: fresh(t, c, i), seen: map[string][]api.Write{}})
	}
	return x
}

// call has a client call the node that its session names.
func (x *tale) call(put bool) {
	x.t.Helper()
	by, key := oneOf(x.r, x.clients...), oneOf(x.r, "c", "g")
	at, err := by.Next(key)
	if err != api.OK {
		x.t.Fatalf("Next: %d", err)
	}
	x.calls = append(x.calls, begun{by: by, node: at, key: key, put: put})
	number, quorum, sloppy := len(x.calls), 1+x.r.Intn(3), x.r.Intn(3) == 0
	if put {
		x.take(x.nodes[at].Put(number, key, x.r.Intn(5) == 0, nil, x.tokens[by.Token(key)], quorum, sloppy))
	} else {
		x.take(x.nodes[at].Get(number, key, quorum, sloppy))
	}
}

func (x *tale) take(acts api.Acts, _ api.Errno) {
	x.t.Helper()
	x.bag = append(x.bag, acts.Send...)
	for _, d := range acts.Done {
		x.ended(d, x.calls[d.Call-1])
	}
}

// ended tells the session how its call went.
func (x *tale) ended(d api.Done, b begun) {
	x.t.Helper()
	switch {
	case d.Err != api.OK:
		b.by.Failed(b.node)
	case b.put:
		wantErr(x.t, "Wrote", b.by.Wrote(d.Writes[0]), api.OK)
		b.by.seen[b.key] = append(b.by.seen[b.key], d.Writes...)
	default:
		x.read(d, b)
	}
}

// read: P1507: an answer that is accepted has all that was seen, or what covers it.
func (x *tale) read(d api.Done, b begun) {
	x.t.Helper()
	was := b.by.Heads(b.key)
	if err := b.by.Got(d.Call, b.key, d.Token, d.Writes); err != api.OK {
		wantErr(x.t, "Got", err, api.ErrStale)
		x.stale++
		return
	}
	x.tokens[d.Call] = d.Token
	for _, w := range b.by.seen[b.key] {
		kept := func(y api.Write) bool { return y.Dot == w.Dot || dotset.Has(y.Ctx, w.Dot) }
		if !dotset.Has(d.Token, w.Dot) || !slices.ContainsFunc(d.Writes, kept) {
			x.t.Errorf("%v was seen of %s; the token is %v, the writes are %v", w.Dot, b.key, d.Token, d.Writes)
		}
	}
	if now := b.by.Heads(b.key); len(was) > 0 && !slices.Equal(was, now) {
		x.taken++
	}
	b.by.seen[b.key] = append(b.by.seen[b.key], d.Writes...)
}

func (x *tale) any() {
	x.t.Helper()
	switch k := x.r.Intn(20); {
	case k < 3:
		x.call(true)
	case k < 8:
		x.call(false)
	case k < 10:
		x.take(x.nodes[x.r.Intn(x.c.Nodes)].Fire(x.r.Intn(4)))
	case len(x.bag) == 0:
	case k < 12:
		at := x.r.Intn(len(x.bag))
		x.bag = slices.Delete(x.bag, at, at+1)
	default:
		at := x.r.Intn(len(x.bag))
		m := x.bag[at]
		x.bag = slices.Delete(x.bag, at, at+1)
		data, _ := wire.Encode(m)
		x.take(x.nodes[m.To].Handle(data))
	}
}

// TestP1507Tales: whatever node a client is led to, and whatever is lost, it never goes back.
func TestP1507Tales(t *testing.T) {
	taken, stale := 0, 0
	for seed := range int64(80) {
		x := newTale(t, seed)
		for range 200 {
			x.any()
		}
		if t.Failed() {
			t.Fatalf("seed %d", seed)
		}
		taken, stale = taken+x.taken, stale+x.stale
	}
	if taken < 200 || stale < 100 {
		t.Errorf("only %d answers told something new, %d went back", taken, stale)
	}
}
