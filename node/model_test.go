package node

import (
	"fmt"
	"math/rand"
	"slices"
	"testing"

	"rookery/api"
	"rookery/coord"
	"rookery/disk"
	"rookery/dotset"
	"rookery/hints"
	"rookery/pagefile"
	"rookery/repair"
	"rookery/ring"
	"rookery/store"
	"rookery/wire"
)

// plain: what a node does, said by the chapter's rules: parts of its own on a disk of its own, timers in a list, numbers in a list, a flag that it is down.
type plain struct {
	c          api.Config
	me         int
	d          *disk.Disk
	ring       *ring.Ring
	s          *store.Store
	calls      *coord.Coord
	hands      *hints.Hands
	compare    *repair.Repair
	timers     []api.Timer
	armed, now int
	used       []int
	down       bool
}

func openPlain(c api.Config, me int, d *disk.Disk) (*plain, api.Errno) {
	p := &plain{c: c, me: me, d: d}
	var err api.Errno
	if p.s, err = store.Open(d, c, me); err != 0 {
		return nil, err
	}
	p.ring, _ = ring.New(c.Nodes, c.Ranges)
	p.calls, _ = coord.New(me, c.Gap)
	p.hands, _ = hints.New(p.s, c, me)
	p.compare, _ = repair.New(p.s, c, me)
	p.arm(30, 3, 0)
	p.arm(50, 2, 0)
	return p, 0
}

func (p *plain) arm(delay, kind, call int) {
	p.armed++
	p.timers = append(p.timers, tm(p.now+delay, p.armed, kind, call))
	slices.SortStableFunc(p.timers, func(a, b api.Timer) int { return a.Due - b.Due })
}

func (p *plain) isDown() bool {
	p.down = p.down || !p.d.IsOn()
	return p.down
}

func (p *plain) order(key string) []int {
	l, _ := p.ring.Order(p.ring.Range(key))
	return l
}

func (p *plain) minds(key string) bool {
	return slices.Contains(p.order(key)[:p.c.Prefer], p.me)
}

// fits: a set for Gap, held against the config dot by dot.
func (p *plain) fits(s []api.Span) bool {
	if dotset.Check(s, p.c.Gap) != 0 {
		return false
	}
	for _, x := range s {
		for i := range 64 {
			if x.Bits>>i&1 == 1 && x.Base+1+i > p.c.Count {
				return false
			}
		}
		if x.Node > p.c.Nodes-1 || x.Base > p.c.Count {
			return false
		}
	}
	return true
}

func (p *plain) right(w api.Write) bool {
	return len(w.Key) > 0 && len(w.Key) <= 16 && len(w.Value) <= 64 && (!w.Dead || len(w.Value) == 0) && w.Dot.Node >= 0 && w.Dot.Node < p.c.Nodes &&
		w.Dot.Count >= 1 && w.Dot.Count <= p.c.Count && p.fits(w.Ctx) && !dotset.Has(w.Ctx, w.Dot)
}

// after: what is done with coord's acts.
func (p *plain) after(a api.Acts, get bool) (api.Acts, api.Errno) {
	for _, x := range a.Arm {
		p.arm(x.Due, x.Kind, x.Call)
	}
	for _, d := range a.Done {
		for _, w := range d.Writes {
			if !get || d.Err != 0 {
				continue
			}
			if _, err := p.s.Merge(w); err == 3 {
				p.down = true
				return api.Acts{}, 3
			}
		}
	}
	return api.Acts{Send: a.Send, Done: a.Done}, 0
}

// ended: an error of a part, which may be that the disk is off.
func (p *plain) ended(a api.Acts, err api.Errno) (api.Acts, api.Errno) {
	p.down = p.down || err == 3
	if err != 0 {
		return api.Acts{}, err
	}
	return a, 0
}

func (p *plain) begin(x tried, put bool) (api.Acts, api.Errno) {
	if p.isDown() {
		return api.Acts{}, 3
	}
	if x.key == "" || len(x.key) > 16 {
		return api.Acts{}, 50
	}
	if put && len(x.value) > 64 {
		return api.Acts{}, 2
	}
	if put && x.dead && len(x.value) > 0 {
		return api.Acts{}, 1
	}
	if !p.minds(x.key) {
		return api.Acts{}, 93
	}
	if x.call < 1 || x.call > 4096 || x.quorum < 1 || x.quorum > p.c.Prefer {
		return api.Acts{}, 1
	}
	if put && !p.fits(x.token) {
		return api.Acts{}, 30
	}
	if slices.Contains(p.used, x.call) {
		return api.Acts{}, 112
	}
	l := p.order(x.key)
	first, rest := l[:p.c.Prefer], l[p.c.Prefer:]
	if !put {
		p.used = append(p.used, x.call)
		a, _ := p.calls.Get(x.call, x.key, first, rest, x.quorum, x.sloppy, p.s.Read(x.key), p.s.Clock(p.ring.Range(x.key)))
		return p.after(a, true)
	}
	w, err := p.s.Mint(x.key, x.dead, x.value, x.token)
	if err != 0 {
		return p.ended(api.Acts{}, err)
	}
	p.used = append(p.used, x.call)
	a, _ := p.calls.Put(x.call, w, first, rest, x.quorum, x.sloppy)
	return p.after(a, false)
}

func (p *plain) handle(data []byte) (api.Acts, api.Errno) {
	if p.isDown() {
		return api.Acts{}, 3
	}
	m, _, err := wire.Decode(data)
	if err != 0 {
		return api.Acts{}, 60
	}
	if m.To != p.me || m.From == p.me || m.From < 0 || m.From > p.c.Nodes-1 {
		return api.Acts{}, 61
	}
	switch m.Kind {
	case 1:
		w := m.Writes[0]
		if !p.right(w) || !p.minds(w.Key) {
			return api.Acts{}, 61
		}
		_, err := p.s.Merge(w)
		return p.ended(send(msgStored(p.me, m.From, m.Call, p.me)), err)
	case 4:
		if !p.minds(m.Key) {
			return api.Acts{}, 61
		}
		return send(msgTell(p.me, m.From, m.Call, m.Key, dotset.Bases(p.s.Clock(p.ring.Range(m.Key))), p.s.Read(m.Key)...)), 0
	case 2, 5, 7:
		if m.Owner > p.c.Nodes-1 || m.Kind == 5 && !p.fits(m.Set) {
			return api.Acts{}, 61
		}
		for _, w := range m.Writes {
			if !p.right(w) {
				return api.Acts{}, 61
			}
		}
		a, _ := p.calls.On(m)
		return p.after(a, m.Kind != 2)
	case 3:
		return p.ended(p.hands.Keep(m))
	case 6:
		return p.ended(p.hands.Seek(m))
	case 10:
		return p.ended(p.hands.Back(m))
	case 11:
		return p.ended(p.hands.Took(m))
	case 8:
		return p.ended(p.compare.Clock(m))
	}
	return p.ended(p.compare.Ship(m))
}

func (p *plain) fire(k int) (api.Acts, api.Errno) {
	if p.isDown() {
		return api.Acts{}, 3
	}
	if k < 0 || k >= len(p.timers) {
		return api.Acts{}, 20
	}
	x := p.timers[k]
	p.timers = slices.Delete(p.timers, k, k+1)
	p.now = max(p.now, x.Due)
	switch x.Kind {
	case 1:
		a, _ := p.calls.Time(x.Call)
		return p.after(a, false)
	case 2:
		p.arm(50, 2, 0)
		return p.ended(p.hands.Time())
	}
	p.arm(30, 3, 0)
	a, err := p.compare.Time()
	if err == 130 {
		return api.Acts{}, 0
	}
	return p.ended(a, err)
}

func (p *plain) see() api.Sight {
	if p.isDown() {
		return api.Sight{}
	}
	return api.Sight{Up: true, State: p.s.See(), Timers: p.timers, Calls: p.calls.Calls()}
}

func oneOf[T any](r *rand.Rand, l ...T) T { return l[r.Intn(len(l))] }

func anyKey(r *rand.Rand) string {
	return oneOf(r, "g", "h", "a", "d", "k", "k", "p", "q", "b", "c")
}

// anySet: mostly one that fits, of small counts.
func anySet(r *rand.Rand, c api.Config, bits bool) []api.Span {
	var out []api.Span
	for node := range c.Nodes {
		if r.Intn(3) > 0 {
			continue
		}
		x := sp(node, 1+r.Intn(4))
		if bits {
			x.Bits = uint64(r.Intn(16)) &^ 1
		}
		out = append(out, x)
	}
	if len(out) > 0 && r.Intn(25) == 0 {
		x := &out[r.Intn(len(out))]
		x.Node, x.Base = oneOf(r, x.Node, 5, 7), oneOf(r, x.Base, 11, 12, 13, 14)
	}
	return out
}

func anyWrite(r *rand.Rand, c api.Config, key string) api.Write {
	w := api.Write{Dot: dot(r.Intn(c.Nodes), 1+r.Intn(6)), Key: key, Dead: r.Intn(4) == 0, Ctx: anySet(r, c, r.Intn(2) == 0)}
	if !w.Dead {
		w.Value = []byte(oneOf(r, "", "v", "value"))
	}
	if r.Intn(30) == 0 {
		w.Dot = dot(oneOf(r, w.Dot.Node, 5, 7), oneOf(r, w.Dot.Count, 12, 13, 14))
	}
	w.Ctx = slices.DeleteFunc(w.Ctx, func(x api.Span) bool { return dotset.Has(spans(x), w.Dot) })
	return w
}

// anyWrites: of rising dots.
func anyWrites(r *rand.Rand, c api.Config, key func() string) []api.Write {
	var out []api.Write
	for range r.Intn(4) {
		out = append(out, anyWrite(r, c, key()))
	}
	slices.SortFunc(out, func(a, b api.Write) int { return (a.Dot.Node-b.Dot.Node)*100 + a.Dot.Count - b.Dot.Count })
	return slices.CompactFunc(out, func(a, b api.Write) bool { return a.Dot == b.Dot })
}

// anyMsg: mostly one that the node takes.
func anyMsg(r *rand.Rand, p *plain) api.Msg {
	key := anyKey(r)
	m := api.Msg{Kind: 1 + r.Intn(11), From: r.Intn(p.c.Nodes), To: p.me, Call: r.Intn(4), Owner: r.Intn(p.c.Nodes), Key: key}
	if r.Intn(10) > 0 {
		m.From = oneOf(r, slices.DeleteFunc(p.order(key), func(n int) bool { return n == p.me })...)
	}
	if open := p.calls.Calls(); len(open) > 0 && r.Intn(3) > 0 {
		m.Kind, m.Call, m.Owner = oneOf(r, 2, 5, 5, 5, 7), oneOf(r, open...), oneOf(r, m.From, m.Owner)
	}
	switch r.Intn(50) {
	case 0:
		m.From = oneOf(r, p.me, 5, 7)
	case 1:
		m.To = oneOf(r, 0, 1, 2, 3, 7)
	case 2:
		m.Owner = oneOf(r, 5, 6, 7)
	}
	return fill(r, p.c, m)
}

// fill gives a message what its kind has, and takes away what it has not.
func fill(r *rand.Rand, c api.Config, m api.Msg) api.Msg {
	key := m.Key
	same := func() string { return key }
	out := api.Msg{Kind: m.Kind, From: m.From, To: m.To}
	switch m.Kind {
	case 1:
		out.Call, out.Writes = m.Call, list(anyWrite(r, c, key))
	case 2:
		out.Call, out.Owner = m.Call, m.Owner
	case 3:
		out.Call, out.Owner, out.Writes = m.Call, m.Owner, list(anyWrite(r, c, key))
	case 4:
		out.Call, out.Key = m.Call, key
	case 5:
		out.Call, out.Key, out.Set, out.Writes = m.Call, key, anySet(r, c, false), anyWrites(r, c, same)
	case 6:
		out.Call, out.Owner, out.Key = m.Call, m.Owner, key
	case 7:
		out.Call, out.Owner, out.Key, out.Writes = m.Call, m.Owner, key, anyWrites(r, c, same)
	case 8:
		out.Range, out.Set = r.Intn(4), anySet(r, c, true)
	case 9:
		out.Range, out.Set = r.Intn(4), anySet(r, c, true)
		out.Writes = anyWrites(r, c, func() string { return oneOf(r, keysOf(c, out.Range, 2)...) })
		out.Writes = slices.DeleteFunc(out.Writes, func(w api.Write) bool { return !dotset.Has(out.Set, w.Dot) })
	case 10:
		out.Writes = list(anyWrite(r, c, key))
	case 11:
		out.Key, out.Dot = key, dot(r.Intn(c.Nodes), 1+r.Intn(6))
	}
	return out
}

// anyTried: mostly a call that begins.
func anyTried(r *rand.Rand, c api.Config) tried {
	x := tried{call: 1 + r.Intn(60), key: anyKey(r), dead: r.Intn(4) == 0, quorum: 1 + r.Intn(c.Prefer), sloppy: r.Intn(2) == 0, token: anySet(r, c, true)}
	if !x.dead {
		x.value = []byte(oneOf(r, "", "v", "w"))
	}
	switch r.Intn(30) {
	case 0:
		x.key = oneOf(r, "", "a key of 17 bytes")
	case 1:
		x.value = make([]byte, oneOf(r, 1, 64, 65))
	case 2:
		x.call = oneOf(r, -1, 0, 4096, 4097)
	case 3:
		x.quorum = oneOf(r, -1, 0, c.Prefer+1)
	}
	return x
}

// both: the node, and a plain one beside it; their disks go through the same.
type both struct {
	n    *Node
	d    *disk.Disk
	twin *plain
	met  map[string]int
}

func (b *both) open(t *testing.T, c api.Config, me int) {
	t.Helper()
	n, err := Open(c, me, b.d)
	twin, wantErr := openPlain(c, me, b.twin.d)
	if err != wantErr || (n == nil) != (err != 0) {
		t.Fatalf("Open: %d; want %d", err, wantErr)
	}
	b.met[fmt.Sprintf("Open %d", err)]++
	if n != nil {
		b.n, b.twin = n, twin
	}
}

func (b *both) same(t *testing.T, what string, a api.Acts, err api.Errno) func(api.Acts, api.Errno) {
	t.Helper()
	return func(want api.Acts, wantErr api.Errno) {
		t.Helper()
		if err != wantErr || showActs(a) != showActs(want) {
			t.Fatalf("%s: %d, %s; want %d, %s", what, err, showActs(a), wantErr, showActs(want))
		}
		b.met[fmt.Sprint(err)]++
		for _, m := range a.Send {
			bytesOf(t, m)
			b.met[fmt.Sprintf("sends %d", m.Kind)]++
		}
		for _, d := range a.Done {
			b.met[fmt.Sprintf("done %d", d.Err)]++
		}
	}
}

func (b *both) step(t *testing.T, r *rand.Rand) {
	t.Helper()
	switch k := r.Intn(20); {
	case k < 3:
		x := anyTried(r, b.twin.c)
		a, err := x.put(b.n)
		b.same(t, fmt.Sprintf("Put %+v", x), a, err)(b.twin.begin(x, true))
	case k < 6:
		x := anyTried(r, b.twin.c)
		a, err := x.get(b.n)
		b.same(t, fmt.Sprintf("Get %+v", x), a, err)(b.twin.begin(x, false))
	case k < 8:
		at := oneOf(r, -1, 0, 0, 0, 1, 1, 2, r.Intn(9))
		a, err := b.n.Fire(at)
		b.same(t, fmt.Sprintf("Fire(%d)", at), a, err)(b.twin.fire(at))
	default:
		m := anyMsg(r, b.twin)
		data, _ := wire.Encode(m) // no bytes, if it is none
		if r.Intn(40) == 0 && len(data) > 0 {
			data[r.Intn(len(data))] = byte(r.Intn(256))
		}
		a, err := b.n.Handle(data)
		b.same(t, "Handle of "+showMsg(m), a, err)(b.twin.handle(data))
	}
}

// power: now and then it is armed, or gone for a while, seen by a call or not.
func (b *both) power(t *testing.T, r *rand.Rand) {
	t.Helper()
	after, torn := r.Intn(25), r.Intn(513)
	kind := r.Intn(90)
	for _, d := range []*disk.Disk{b.d, b.twin.d} {
		switch kind {
		case 0:
			d.Arm(after, torn)
		case 1:
			d.Off()
		case 2, 3, 4, 5:
			d.On()
		}
	}
	if kind > 2 && kind < 12 && b.n.Down() {
		b.open(t, b.twin.c, b.twin.me)
	}
}

// TestModel: random calls, messages, timers and power failures, against the chapter's rules.
func TestModel(t *testing.T) {
	met := map[string]int{}
	for seed := range int64(120) {
		r := rand.New(rand.NewSource(seed))
		c := five()
		c.Keys, c.Siblings, c.Count, c.Hints = 1+r.Intn(10), 1+r.Intn(8), 12, r.Intn(5)
		me := r.Intn(5)
		b := &both{met: met, twin: &plain{}}
		b.d, _ = disk.New(pagefile.Sectors)
		b.twin.d, _ = disk.New(pagefile.Sectors)
		b.open(t, c, me)
		for i := range 200 {
			b.power(t, r)
			b.step(t, r)
			if got, want := showSight(b.n.See()), showSight(b.twin.see()); got != want || b.d.Writes() != b.twin.d.Writes() {
				t.Fatalf("seed %d, step %d: %s, %d raw writes; want %s, %d", seed, i, got, b.d.Writes(), want, b.twin.d.Writes())
			}
		}
	}
	for _, what := range []string{
		"Open 0", "Open 3", "error 0", "error 1", "error 2", "error 3", "error 20", "error 30", "error 31", "error 50", "error 51", "error 52", "error 60", "error 61", "error 90", "error 91", "error 93", "error 112",
		"sends 1", "sends 2", "sends 3", "sends 4", "sends 5", "sends 6", "sends 7", "sends 8", "sends 9", "sends 10", "sends 11", "done 0", "done 110",
	} {
		if met[what] < 5 {
			t.Errorf("%q was met only %d times: %v", what, met[what], met)
		}
	}
}
