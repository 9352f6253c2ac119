package cluster

import (
	"math/rand"
	"slices"
	"testing"

	"rookery/api"
)

// roomyConfig: one under which a script of so few writes as here can come to rest.
func roomyConfig(r *rand.Rand) api.Config {
	c := anyConfig(r)
	c.Siblings, c.Keys, c.Count = 3+r.Intn(6), 3+r.Intn(6), 1000
	return c
}

// playWatch plays a script of random steps.
func playWatch(t *testing.T, seed int64, steps int, met map[string]int) *watch {
	t.Helper()
	r := rand.New(rand.NewSource(seed))
	c := roomyConfig(r)
	w := newWatch(t, r, c, met)
	x := &writer{r: r, c: c, keys: []string{"a", "k", "g"}[:1+r.Intn(3)], calm: 1 + r.Intn(4), wrong: 1000}
	for range steps {
		if w.step(x.step(w.sight())); t.Failed() {
			t.FailNow()
		}
	}
	w.exact()
	return w
}

// TestWhole: W1 to W7 and W9, behind each step of random scripts; and at their end, where W6 speaks of them, the cluster comes to rest.
func TestWhole(t *testing.T) {
	least := map[string]int{"done 0": 2000, "done 110": 500, "done 111": 500, "done 150": 20, "overlap": 500, "again": 500, "token": 500, "rest": 30, "rest behind a crash": 15, "error 31": 20, "error 51": 100}
	inParallel(t, 480, func(t *testing.T, seed int64, met map[string]int) {
		w := playWatch(t, seed, 140, met)
		what := "rest"
		if !w.fits() {
			for node, up := range w.sight().up { // then no call is open any more
				if up {
					w.step(crashing(node))
				}
			}
			what = "rest behind a crash"
		}
		if w.fits() {
			met[what]++
			w.rest()
			w.exact()
		}
	}, least)
}

// TestW8GoesOn: from rest a Put over what a Get has read is answered, and read alone.
func TestW8GoesOn(t *testing.T) {
	inParallel(t, 80, func(t *testing.T, seed int64, met map[string]int) {
		w := playWatch(t, seed+1000, 60, met)
		if !w.fits() || w.config.Bag < 2*w.config.Prefer {
			return
		}
		w.rest()
		for node := range w.config.Nodes {
			w.step(arming(node, -1, 0))
		}
		for _, key := range []string{"a", "k", "g"} {
			for _, node := range preferred(w.config, key) {
				w.goesOn(node, key)
			}
		}
	}, map[string]int{"went on": 60})
}

// ends: what the call is answered, at once or as messages are delivered.
func (w *watch) ends(s api.Step) api.Done {
	w.t.Helper()
	a := w.step(s)
	if a.Err != api.OK {
		w.t.Fatalf("W8: %+v: %s", s, showAnswer(a))
	}
	all := a.Done
	for w.bag.Len() > 0 {
		all = append(all, w.step(delivering(w.r.Intn(w.bag.Len()))).Done...)
	}
	at := slices.IndexFunc(all, func(d api.Done) bool { return d.Call == a.Call })
	if at < 0 || all[at].Err != api.OK {
		w.t.Fatalf("W8: %+v ends with %s", s, showAnswer(api.Answer{Done: all}))
	}
	return all[at]
}

func (w *watch) goesOn(node int, key string) {
	w.t.Helper()
	if len(w.places[node].node.Read(key)) == 0 {
		return
	}
	quorum := func() int { return 1 + w.r.Intn(w.config.Prefer) }
	g := w.ends(getting(node, key, quorum()))
	p := w.ends(behind(putting(node, key, "on", quorum()), g.Call))
	if again := w.ends(getting(node, key, quorum())); showAll(again.Writes) != showAll(p.Writes) {
		w.t.Errorf("W8: %s was written, and %s is read", showAll(p.Writes), showAll(again.Writes))
	}
	if !w.atRest() {
		w.t.Errorf("W8: the cluster is not at rest any more: %s", w.looks())
	}
	w.met["went on"]++
}

// TestW9OwnWrites: with strict quorums that overlap a session finds what it has written, whatever is late.
func TestW9OwnWrites(t *testing.T) {
	inParallel(t, 60, func(t *testing.T, seed int64, met map[string]int) {
		r := rand.New(rand.NewSource(seed))
		c := five()
		c.Siblings, c.Gap, c.Bag = 8, 64, 256
		w := newWatch(t, r, c, met)
		keys := []string{"g", "a", "p", "b"}
		for range 25 {
			client := r.Intn(len(keys)) // each has a key of its own
			quorum := 1 + r.Intn(c.Prefer)
			wrote := w.until(writing(client, keys[client], "v", quorum))
			if wrote.Err == api.ErrSiblings { // its token is an old one
				continue
			}
			for range 1 + r.Intn(2) {
				d := w.until(rereading(client, keys[client], c.Prefer+1-quorum))
				if d.Err != api.OK || !finds(d.Writes, wrote.Writes[0]) {
					t.Errorf("W9: %s was written; then %d, %s is read", show(wrote.Writes[0]), d.Err, showAll(d.Writes))
				}
				met["found"]++
			}
		}
	}, map[string]int{"found": 1000})
}

// until delivers letters, any one, till the call has ended; the others stay late.
func (w *watch) until(s api.Step) api.Done {
	w.t.Helper()
	a := w.step(s)
	if a.Err != api.OK {
		return api.Done{Err: a.Err}
	}
	for all := a.Done; ; {
		if at := slices.IndexFunc(all, func(d api.Done) bool { return d.Call == a.Call }); at >= 0 {
			return all[at]
		}
		if w.bag.Len() == 0 {
			w.t.Fatalf("%+v does not end", s)
		}
		all = w.step(delivering(w.r.Intn(w.bag.Len()))).Done
	}
}
