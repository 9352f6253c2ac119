package types

import (
	"math/rand"
	"slices"
	"testing"

	"rookery/api"
	"rookery/cluster"
	"rookery/ring"
	"rookery/rookery"
)

const counted = "k" // the key of the counter

// client: reads the counter, adds to it, writes it back, again and again.
type client struct {
	left  int    // how often it adds still
	call  int    // that it waits for; 0: none
	by    int    // what it adds, once it has read
	value []byte // what it writes next; nil: it reads first
}

// crowd: clients of a cluster, and whatever becomes of their messages.
type crowd struct {
	t       *testing.T
	r       *rand.Rand
	c       api.Config
	all     *cluster.Cluster
	steps   []api.Step
	clients []client
	lossy   bool
	sum     int  // of all that was added
	many    int  // how often somebody has read siblings
	refused bool // a call was not answered OK
}

func newCrowd(t *testing.T, seed int64) *crowd {
	r := rand.New(rand.NewSource(seed))
	c := api.Config{Nodes: 1 + r.Intn(6), Ranges: 1 + r.Intn(3), Siblings: 8, Gap: 64, Count: 1000, Keys: 2, Hints: 4, Bag: 256}
	c.Prefer = 1 + r.Intn(min(c.Nodes, api.MaxPrefer))
	all, err := cluster.New(c)
	if err != api.OK {
		t.Fatalf("New(%v): %d", c, err)
	}
	w := &crowd{t: t, r: r, c: c, all: all, lossy: r.Intn(4) == 0}
	for range 1 + r.Intn(api.MaxClients) {
		w.clients = append(w.clients, client{left: 1 + r.Intn(4)})
	}
	return w
}

func (w *crowd) do(s api.Step) api.Answer {
	w.steps = append(w.steps, s)
	a := w.all.Do(s)
	w.ended(a.Done)
	return a
}

// ended tells the clients which of their calls have.
func (w *crowd) ended(l []api.Done) {
	for _, d := range l {
		i := slices.IndexFunc(w.clients, func(x client) bool { return x.call == d.Call })
		if d.Err != api.OK {
			w.refused = true
		} else if i >= 0 {
			w.goesOn(i, d)
		}
	}
}

func (w *crowd) goesOn(i int, d api.Done) {
	x := &w.clients[i]
	x.call = 0
	if x.value != nil {
		w.sum += x.by
		x.value = nil
		x.left--
		return
	}
	v, err := Resolve(Counter, d.Writes)
	wantErr(w.t, "Resolve", err, api.OK)
	x.by = w.r.Intn(2001) - 1000
	wantErr(w.t, "Add", v.Add(i, x.by), api.OK)
	b, err := v.Bytes()
	wantErr(w.t, "Bytes", err, api.OK)
	x.value = b
	w.many += max(0, min(1, len(d.Writes)-1))
}

// begins a client's next call, if it waits for none.
func (w *crowd) begins(i int) {
	x := &w.clients[i]
	if x.call != 0 || x.left == 0 {
		return
	}
	s := api.Step{Kind: api.StepRead, Client: i, Key: counted, Quorum: w.c.Prefer/2 + 1}
	if w.r.Intn(6) == 0 {
		s.Quorum = 1 + w.r.Intn(w.c.Prefer)
	}
	if x.value != nil {
		s.Kind, s.Value = api.StepWrite, x.value
	}
	w.steps = append(w.steps, s)
	a := w.all.Do(s) // its number must be known ahead of its end
	x.call = a.Call
	w.ended(a.Done)
}

// happens: a message comes, or is late, or doubled; a node compares, or hands back.
func (w *crowd) happens() {
	letters := len(w.all.Do(api.Step{Kind: api.StepBag}).Bag)
	at, node := w.r.Intn(letters+1), w.r.Intn(w.c.Nodes)
	switch k := w.r.Intn(100); {
	case k < 25:
		w.begins(w.r.Intn(len(w.clients)))
	case k < 28:
		w.do(api.Step{Kind: api.StepDouble, I: at})
	case k < 30 && w.lossy:
		w.do(api.Step{Kind: api.StepDrop, I: at})
	case k < 34:
		timers := w.all.Do(api.Step{Kind: api.StepSee, Node: node}).Sight.Timers
		if i := slices.IndexFunc(timers, func(x api.Timer) bool { return x.Kind != api.TimeCall }); i >= 0 {
			w.do(api.Step{Kind: api.StepFire, Node: node, I: i})
		}
	case k < 36:
		w.crashes(node)
	default:
		w.do(api.Step{Kind: api.StepDeliver, I: at})
	}
}

// crashes a node at which no call is open, or restarts it.
func (w *crowd) crashes(node int) {
	sight := w.all.Do(api.Step{Kind: api.StepSee, Node: node}).Sight
	switch {
	case !sight.Up:
		w.do(api.Step{Kind: api.StepRestart, Node: node})
	case w.lossy && len(sight.Calls) == 0:
		w.do(api.Step{Kind: api.StepCrash, Node: node})
	}
}

func (w *crowd) waits() bool {
	return slices.ContainsFunc(w.clients, func(x client) bool { return x.left > 0 })
}

// settles, and tells how many siblings each node has that the key's range prefers; each has them all.
func (w *crowd) settles() int {
	w.t.Helper()
	further, err := rookery.Settle(w.c, w.steps)
	wantErr(w.t, "Settle", err, api.OK)
	for _, s := range further {
		w.all.Do(s)
	}
	circle, _ := ring.New(w.c.Nodes, w.c.Ranges)
	preferred, _ := circle.Preferred(circle.Range(counted), w.c.Prefer)
	siblings := 0
	for _, node := range preferred {
		var l []api.Write
		for _, k := range w.all.Do(api.Step{Kind: api.StepSee, Node: node}).Sight.State.Keys {
			l = append(l, k...)
		}
		siblings = len(l)
		if v, err := Resolve(Counter, l); err != api.OK || v.Sum() != w.sum {
			w.t.Errorf("node %d has %v, which resolve to %v, %d; all that was added is %d", node, l, v, err, w.sum)
		}
	}
	return siblings
}

// TestP1913Whole: where every call is answered OK, nothing that was added is lost, and nothing counts twice.
func TestP1913Whole(t *testing.T) {
	held, many, left := 0, 0, 0
	for seed := range int64(300) {
		w := newCrowd(t, seed)
		for i := 0; i < 2000 && w.waits() && !w.refused; i++ {
			w.happens()
		}
		if w.refused || w.waits() { // nothing is promised
			continue
		}
		held++
		left += max(0, min(1, w.settles()-1))
		many += max(0, min(1, w.many))
		if t.Failed() {
			t.Fatalf("seed %d", seed)
		}
	}
	if held < 150 || many < 50 || left < 30 {
		t.Errorf("all was answered OK %d times, siblings were read in %d of them, and left in %d", held, many, left)
	}
}
