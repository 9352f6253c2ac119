package sibs

import (
	"math/rand"
	"slices"
	"testing"

	"rookery/api"
	"rookery/dotset"
)

// place: a node of P508: the siblings of the one key, and its clock.
type place struct {
	set   []api.Write
	clock []api.Span
}

// asked: what somebody was told, and the token of it.
type asked struct {
	told  []api.Write
	token []api.Span
}

// made: a write, and what its maker had been told.
type made struct {
	w    api.Write
	told []api.Write
}

// story: P508, played.
type story struct {
	places []place
	asks   []asked
	made   []made
}

func newStory(places int) *story { return &story{places: make([]place, places)} }

func (s *story) writes() []api.Write {
	var all []api.Write
	for _, m := range s.made {
		all = append(all, m.w)
	}
	return all
}

// ask asks the places whose bit is set.
func (s *story) ask(which int) {
	var in [][]api.Write
	var b [][]api.Span
	for i, p := range s.places {
		if which&(1<<i) != 0 {
			in, b = append(in, p.set), append(b, dotset.Bases(p.clock))
		}
	}
	token, out := Token(in, b, api.MaxGap)
	if len(out) > 0 {
		panic("a token that does not hold all")
	}
	s.asks = append(s.asks, asked{Gather(in...), token})
}

// make makes a write at a place, with what an ask told (below 0: with nothing).
func (s *story) make(at, ask int) {
	m := made{w: api.Write{Dot: dot(at, 1), Key: "k", Dead: len(s.made)%5 == 4}}
	for _, x := range s.places[at].clock {
		if x.Node == at {
			m.w.Dot.Count = x.Base + 1
		}
	}
	if ask >= 0 {
		m.told, m.w.Ctx = s.asks[ask].told, s.asks[ask].token
	}
	s.made = append(s.made, m)
	s.take(at, m.w)
}

// take hands a write to a place.
func (s *story) take(at int, w api.Write) {
	p := &s.places[at]
	if dotset.Has(p.clock, w.Dot) {
		return
	}
	var e, f api.Errno
	p.set, e = Merge(p.set, w, 1000)
	p.clock, f = dotset.Add(p.clock, w.Dot, api.MaxGap)
	if e != api.OK || f != api.OK {
		panic("a write that does not fit")
	}
}

func (s *story) step(r chance) {
	switch at := r.Intn(len(s.places)); {
	case r.oneIn(3):
		s.ask(1 + r.Intn(1<<len(s.places)-1))
	case r.oneIn(2):
		// an old token as often as the newest
		ask := len(s.asks) - 1
		if ask >= 0 && r.oneIn(2) {
			ask = r.Intn(len(s.asks)+1) - 1
		}
		s.make(at, ask)
	case len(s.made) > 0:
		s.take(at, s.made[r.Intn(len(s.made))].w)
	}
}

// check holds the story against P508's three points.
func (s *story) check(t *testing.T) {
	t.Helper()
	all := s.writes()
	for i, p := range s.places {
		var want []api.Write
		for _, w := range all {
			if dotset.Has(p.clock, w.Dot) && !slices.ContainsFunc(all, func(u api.Write) bool { return dotset.Has(p.clock, u.Dot) && plainCovers(u, w) }) {
				want = append(want, w)
			}
		}
		slices.SortFunc(want, func(a, b api.Write) int {
			if above(a.Dot, b.Dot) {
				return 1
			}
			return -1
		})
		if !slices.EqualFunc(p.set, want, plainSame) {
			t.Fatalf("place %d, clock %v: %v; want %v", i, p.clock, p.set, want)
		}
	}
	for _, m := range s.made {
		for _, w := range all {
			want := slices.ContainsFunc(m.told, func(u api.Write) bool { return plainSame(u, w) || plainCovers(u, w) })
			if Covers(m.w, w) != want {
				t.Fatalf("%v, told %v: does it cover %v? %v", m.w, m.told, w, !want)
			}
		}
	}
	s.checkChains(t, all)
}

// checkChains: a cover's cover covers.
func (s *story) checkChains(t *testing.T, all []api.Write) {
	t.Helper()
	for _, u := range all {
		for _, v := range all {
			for _, w := range all {
				if Covers(u, v) && Covers(v, w) && !Covers(u, w) {
					t.Fatalf("%v covers %v covers %v", u, v, w)
				}
			}
		}
	}
}

func TestP508Stories(t *testing.T) {
	several, covered := 0, 0
	for seed := range int64(400) {
		r := chance{rand.New(rand.NewSource(seed))}
		s := newStory(1 + r.Intn(4))
		for range 30 {
			s.step(r)
			s.check(t)
		}
		for _, p := range s.places {
			if len(p.set) > 1 {
				several++
			}
			if len(p.set) > 0 && dotset.Count(p.clock) > len(p.set)+3 {
				covered++
			}
		}
	}
	if several < 300 || covered < 100 {
		t.Errorf("dull stories: %d with several siblings, %d with many covered", several, covered)
	}
}

// TestP508EqualClocks: all places take all writes, each in an order of its own, and more than once: all are alike.
func TestP508EqualClocks(t *testing.T) {
	for seed := range int64(200) {
		r := chance{rand.New(rand.NewSource(seed))}
		s := newStory(4)
		for range 30 {
			s.step(r)
		}
		for at := range s.places {
			all := s.writes()
			all = append(all, all...)
			r.Shuffle(len(all), func(i, j int) { all[i], all[j] = all[j], all[i] })
			for _, w := range all {
				s.take(at, w)
			}
		}
		s.check(t)
		for i, p := range s.places {
			if first := s.places[0]; !slices.Equal(p.clock, first.clock) || !slices.EqualFunc(p.set, first.set, plainSame) {
				t.Fatalf("seed %d: place %d: %v, %v; place 0: %v, %v", seed, i, p.clock, p.set, first.clock, first.set)
			}
		}
	}
}

// TestP508EveryShortStory: two places, all stories of five deeds.
func TestP508EveryShortStory(t *testing.T) {
	var play func(deeds []func(*story))
	stories := 0
	play = func(deeds []func(*story)) {
		s := newStory(2)
		for _, deed := range deeds {
			deed(s)
		}
		s.check(t)
		stories++
		if len(deeds) == 5 {
			return
		}
		next := func(deed func(*story)) { play(append(deeds[:len(deeds):len(deeds)], deed)) }
		for which := 1; which <= 3; which++ {
			next(func(s *story) { s.ask(which) })
		}
		for at := range 2 {
			for ask := -1; ask < len(s.asks); ask++ {
				next(func(s *story) { s.make(at, ask) })
			}
			for _, m := range s.made {
				next(func(s *story) { s.take(at, m.w) })
			}
		}
	}
	play(nil)
	if stories < 5000 {
		t.Errorf("%d stories alone", stories)
	}
}
