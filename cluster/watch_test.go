package cluster

import (
	"fmt"
	"maps"
	"math/rand"
	"slices"
	"testing"

	"rookery/api"
	"rookery/dotset"
	"rookery/ring"
	"rookery/wire"
)

// name: of a write.
type name struct {
	rng int
	dot api.Dot
}

// begunPut and begunGet: what is known of a call.
type begunPut struct {
	write  api.Write
	node   int
	quorum int
	strict bool
	from   int
	heard  map[int]int // for which owners the node was told that it lasts
	ended  int         // in which step; 0: not yet, or not with OK
}

type begunGet struct {
	key    string
	quorum int
	strict bool
	begun  int // in which step
	ok     bool
	writes []api.Write
}

// watch: a cluster, and all that was ever to be seen of it, held against 'The whole' behind each step.
type watch struct {
	*play
	r      *rand.Rand
	ring   *ring.Ring
	now    int                // which step it is
	stored map[name]api.Write // all that was ever stored anywhere
	disks  []api.State        // what each node's disk has
	puts   map[int]*begunPut
	gets   map[int]*begunGet
	read   [api.MaxClients][]api.Write // what each session has read or written
	owner  map[int]int                 // of calls: the session
	met    map[string]int
}

func newWatch(t *testing.T, r *rand.Rand, c api.Config, met map[string]int) *watch {
	t.Helper()
	w := &watch{play: fresh(t, c), r: r, stored: map[name]api.Write{}, disks: make([]api.State, c.Nodes), puts: map[int]*begunPut{}, gets: map[int]*begunGet{}, owner: map[int]int{}, met: met}
	w.ring, _ = ring.New(c.Nodes, c.Ranges)
	return w
}

// step takes a step, and looks at all that it has changed.
func (w *watch) step(s api.Step) api.Answer {
	w.t.Helper()
	w.now++
	w.hear(s)
	before := w.sight().up
	a := w.Do(s)
	changed := !slices.Equal(before, w.sight().up) || s.Kind == api.StepRestart
	fresh := w.look(changed)
	w.begin(s, a, fresh)
	for _, d := range a.Done {
		w.end(d)
	}
	w.clockTells()
	w.isKept()
	w.met[fmt.Sprintf("error %d", a.Err)]++
	return a
}

// hear: a MsgStored is about to be delivered.
func (w *watch) hear(s api.Step) {
	if s.Kind != api.StepDeliver {
		return
	}
	l, err := w.bag.At(s.I)
	if err != api.OK || !w.places[l.To].isUp() {
		return
	}
	m, _, _ := wire.Decode(l.Data)
	if p := w.puts[m.Call]; m.Kind == api.MsgStored && p != nil && p.node == m.To {
		p.heard[m.Owner] = 1
	}
}

// look takes in what the disks have now, and tells the writes that were never stored before. W5, W7: clocks and own counts don't go back; no set has what it may not have; a hint goes only behind its owner's word.
func (w *watch) look(changed bool) []api.Write {
	w.t.Helper()
	was := slices.Clone(w.disks)
	var news []api.Write
	for node := range w.disks {
		if sight := w.Do(seeing(node)).Sight; sight.Up {
			w.disks[node] = sight.State
		} else if changed {
			w.disks[node] = w.onDisk(node)
		}
		for _, x := range w.allOf(node) {
			n := name{w.ring.Range(x.Key), x.Dot}
			if old, ok := w.stored[n]; !ok {
				news = append(news, x)
				w.stored[n] = x
			} else if show(old) != show(x) {
				w.t.Errorf("node %d has %s; elsewhere it is %s", node, show(x), show(old))
			}
		}
	}
	for node := range w.disks {
		w.onlyGrows(node, was[node])
	}
	return news
}

// allOf: siblings and hints.
func (w *watch) allOf(node int) []api.Write {
	out := slices.Concat(w.disks[node].Keys...)
	for _, h := range w.disks[node].Hints {
		out = append(out, h.Write)
	}
	return out
}

func (w *watch) clock(node, rng int) []api.Span {
	for _, k := range w.disks[node].Clocks {
		if k.Range == rng {
			return k.Set
		}
	}
	return nil
}

func (w *watch) onlyGrows(node int, was api.State) {
	w.t.Helper()
	now := w.disks[node]
	if now.Gen < was.Gen {
		w.t.Errorf("node %d: Gen %d behind %d", node, now.Gen, was.Gen)
	}
	for i, k := range was.Clocks {
		set := now.Clocks[i].Set
		if !dotset.Within(k.Set, set) {
			w.t.Errorf("node %d: the clock %v behind %v", node, set, k.Set)
		}
		if dotset.Check(set, w.config.Gap) != api.OK {
			w.t.Errorf("node %d: the clock %v is no set", node, set)
		}
		for _, x := range set {
			if x.Node == node && x.Bits != 0 {
				w.t.Errorf("node %d: of its own it knows %v", node, x)
			}
		}
	}
	for _, h := range was.Hints {
		kept := func(x api.Hint) bool { return sameHint(x, h) }
		if !slices.ContainsFunc(now.Hints, kept) && !dotset.Has(w.clock(h.Owner, w.ring.Range(h.Write.Key)), h.Write.Dot) {
			w.t.Errorf("node %d has given up %s, and its owner %d does not have it", node, show(h.Write), h.Owner)
		}
	}
}

// begin: a call has begun; a Put has made just one write.
func (w *watch) begin(s api.Step, a api.Answer, news []api.Write) {
	w.t.Helper()
	session := s.Kind == api.StepWrite || s.Kind == api.StepRead
	put := s.Kind == api.StepPut || s.Kind == api.StepWrite
	if a.Call == 0 {
		if len(news) > 0 && a.Err != api.ErrDown && s.Kind != api.StepRestart {
			w.t.Errorf("%+v: %s is new", s, showAll(news))
		}
		return
	}
	node, from := s.Node, s.From
	if session {
		w.owner[a.Call] = s.Client
		node, from = a.Node, w.clients[s.Client].Token(s.Key)
	}
	if !put {
		w.gets[a.Call] = &begunGet{key: s.Key, quorum: s.Quorum, strict: session || !s.Sloppy, begun: w.now}
		return
	}
	if len(news) != 1 || news[0].Dot.Node != node || news[0].Key != s.Key {
		w.t.Fatalf("%+v: %s is new", s, showAll(news))
	}
	w.puts[a.Call] = &begunPut{write: news[0], node: node, quorum: s.Quorum, strict: session || !s.Sloppy, from: from, heard: map[int]int{node: 1}}
}

// end: a call has ended.
func (w *watch) end(d api.Done) {
	w.t.Helper()
	w.met[fmt.Sprintf("done %d", d.Err)]++
	client, session := w.owner[d.Call]
	if p := w.puts[d.Call]; p != nil {
		if d.Err == api.ErrQuorum && len(p.heard) >= p.quorum {
			w.t.Errorf("W7: the Put %d had heard for %d owners, and wanted %d", d.Call, len(p.heard), p.quorum)
		}
		if d.Err == api.OK {
			p.ended = w.now
			if len(p.heard) < p.quorum || showAll(d.Writes) != showAll([]api.Write{p.write}) {
				w.t.Errorf("the Put %d is answered %s; it had heard for %d owners of %d", d.Call, showAll(d.Writes), len(p.heard), p.quorum)
			}
			if session {
				w.read[client] = append(w.read[client], p.write)
			}
		}
		return
	}
	g := w.gets[d.Call]
	if d.Err != api.OK {
		return
	}
	g.ok, g.writes = true, d.Writes
	w.overlaps(g)
	if session {
		w.goesNotBack(client, g)
	}
}

// finds: a write is among others, or one of them covers it.
func finds(l []api.Write, w api.Write) bool {
	return slices.ContainsFunc(l, func(x api.Write) bool { return x.Dot == w.Dot || covers(x, w) })
}

// overlaps: W3.
func (w *watch) overlaps(g *begunGet) {
	w.t.Helper()
	for call, p := range w.puts {
		if p.write.Key != g.key || !g.strict || !p.strict || p.ended == 0 || p.ended >= g.begun || g.quorum+p.quorum <= w.config.Prefer {
			continue
		}
		w.met["overlap"]++
		if !finds(g.writes, p.write) {
			w.t.Errorf("W3: the Put %d of %s with %d, then a Get with %d: %s", call, show(p.write), p.quorum, g.quorum, showAll(g.writes))
		}
	}
}

// goesNotBack: W9.
func (w *watch) goesNotBack(client int, g *begunGet) {
	w.t.Helper()
	for _, x := range w.read[client] {
		if x.Key == g.key {
			w.met["again"]++
			if !finds(g.writes, x) {
				w.t.Errorf("W9: the session %d has seen %s; a later answer is %s", client, show(x), showAll(g.writes))
			}
		}
	}
	w.read[client] = append(w.read[client], g.writes...)
}

// clockTells: W1.
func (w *watch) clockTells() {
	w.t.Helper()
	for node := range w.disks {
		if !w.places[node].isUp() {
			continue
		}
		known := map[string][]api.Write{}
		for n, x := range w.stored {
			if dotset.Has(w.clock(node, n.rng), n.dot) {
				known[x.Key] = append(known[x.Key], x)
			}
		}
		var want [][]api.Write
		for _, key := range slices.Sorted(maps.Keys(known)) {
			want = append(want, uncovered(known[key]))
		}
		got := w.disks[node].Keys
		if showState(api.State{Keys: got}) != showState(api.State{Keys: want}) {
			w.t.Errorf("W1: node %d stores %s; its clock tells %s", node, showState(w.disks[node]), showState(api.State{Keys: want}))
		}
	}
}

// isKept: W2.
func (w *watch) isKept() {
	w.t.Helper()
	var all []api.Write
	for node := range w.disks {
		all = append(all, w.allOf(node)...)
	}
	for call, p := range w.puts {
		of := slices.DeleteFunc(slices.Clone(all), func(x api.Write) bool { return x.Key != p.write.Key })
		if p.ended > 0 && !finds(of, p.write) {
			w.t.Errorf("W2: the Put %d was answered OK, and nobody has %s", call, show(p.write))
		}
	}
}

// exact: W4: of all writes of the key a Put covers those that its Get answered, and what these cover.
func (w *watch) exact() {
	w.t.Helper()
	for call, p := range w.puts {
		var seen []api.Write
		if p.from != 0 {
			if g := w.gets[p.from]; g == nil || !g.ok || g.key != p.write.Key {
				w.t.Fatalf("the Put %d was begun with the token of %d", call, p.from)
			} else {
				seen = g.writes
			}
			w.met["token"]++
		}
		for _, x := range w.stored {
			if x.Key == p.write.Key && covers(p.write, x) != finds(seen, x) {
				w.t.Errorf("W4: the Put %d is %s, its Get has answered %s; %s", call, show(p.write), showAll(seen), show(x))
			}
		}
	}
}

// fits: whether W6 speaks of the cluster as it is now.
func (w *watch) fits() bool {
	open := false
	var now, ever = map[string]set{}, map[string]set{}
	add := func(to map[string]set, x api.Write) {
		if to[x.Key] == nil {
			to[x.Key] = set{}
		}
		to[x.Key][x.Dot] = struct{}{}
	}
	for node := range w.disks {
		open = open || w.timerOf(node, api.TimeCall) >= 0
		for _, x := range w.allOf(node) {
			add(now, x)
		}
	}
	for _, l := range w.Do(bagging()).Bag {
		m, _, _ := wire.Decode(l.Data)
		for _, x := range m.Writes {
			add(now, x)
		}
	}
	for _, x := range w.stored {
		add(ever, x)
	}
	if open {
		now = ever
	}
	for _, s := range now {
		if len(s) > w.config.Siblings {
			return false
		}
	}
	return len(ever) <= w.config.Keys
}

// atRest: no hint, nothing under way, and all preferred nodes know the same.
func (w *watch) atRest() bool {
	if w.bag.Len() > 0 || slices.Contains(w.sight().up, false) {
		return false
	}
	for node := range w.disks {
		if len(w.disks[node].Hints) > 0 || len(w.Do(seeing(node)).Sight.Calls) > 0 {
			return false
		}
	}
	for rng := range w.config.Ranges {
		first, _ := w.ring.Preferred(rng, w.config.Prefer)
		for _, node := range first {
			if !slices.Equal(w.clock(node, rng), w.clock(first[0], rng)) {
				return false
			}
		}
	}
	return true
}

// rest: W6: restarts, timers and deliveries alone.
func (w *watch) rest() {
	w.t.Helper()
	for range 400 {
		for node, up := range w.sight().up {
			for !up {
				up = w.step(restarting(node)).Err == api.OK
			}
		}
		w.deliver()
		if w.atRest() {
			w.wantAlike()
			return
		}
		for node := range w.disks {
			for range len(w.Do(seeing(node)).Sight.Timers) {
				w.step(firing(node, 0))
				w.deliver()
			}
		}
	}
	w.t.Errorf("W6: it does not come to rest: %s", w.looks())
}

func (w *watch) deliver() {
	w.t.Helper()
	for w.bag.Len() > 0 && !w.t.Failed() {
		w.step(delivering(0))
	}
}

// wantAlike: all preferred nodes have the siblings of all that was ever stored.
func (w *watch) wantAlike() {
	w.t.Helper()
	for rng := range w.config.Ranges {
		all, want := set{}, map[string][]api.Write{}
		for n, x := range w.stored {
			if n.rng == rng {
				all[n.dot] = struct{}{}
				want[x.Key] = append(want[x.Key], x)
			}
		}
		first, _ := w.ring.Preferred(rng, w.config.Prefer)
		for _, node := range first {
			if !slices.Equal(w.clock(node, rng), all.spans()) {
				w.t.Errorf("W6: at rest node %d knows %v of the range %d; stored was %v", node, w.clock(node, rng), rng, all.spans())
			}
			for key, l := range want {
				if got := w.places[node].node.Read(key); showAll(got) != showAll(uncovered(l)) {
					w.t.Errorf("W6: at rest node %d has %s; want %s", node, showAll(got), showAll(uncovered(l)))
				}
			}
		}
	}
}
