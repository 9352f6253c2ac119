package store

import (
	"maps"
	"slices"
	"sync"

	"rookery/api"
	"rookery/dotset"
)

// Read tells a key's siblings.
func (s *Store) Read(key string) []api.Write {
	s.lock.Lock()
	defer s.lock.Unlock()
	return copies(s.now.keys[key].sibs)
}

// Held tells what is kept of a key for an owner.
func (s *Store) Held(owner int, key string) []api.Write {
	s.lock.Lock()
	defer s.lock.Unlock()
	var list []api.Write
	for n, h := range s.now.hints {
		if n.owner == owner && n.key == key {
			list = append(list, copyOf(h.write))
		}
	}
	slices.SortFunc(list, byDots)
	return list
}

// Clock tells what the node knows of a range.
func (s *Store) Clock(rng int) []api.Span {
	s.lock.Lock()
	defer s.lock.Unlock()
	at := s.now.clockAt(rng)
	if at < 0 {
		return nil
	}
	return slices.Clone(s.now.clocks[at].Set)
}

// Missing tells, for each clock of a range, the stored writes of the range that it lacks.
func (s *Store) Missing(clocks []api.Clock) [][]api.Write {
	s.lock.Lock()
	defer s.lock.Unlock()
	lists := make([][]api.Write, len(clocks))
	var all sync.WaitGroup
	for i, c := range clocks {
		all.Add(1)
		go func() {
			defer all.Done()
			lists[i] = s.lacking(c)
		}()
	}
	all.Wait()
	return lists
}

// lacking tells the stored writes of a clock's range that it lacks.
func (s *Store) lacking(c api.Clock) []api.Write {
	known := func(w api.Write) bool { return dotset.Has(c.Set, w.Dot) }
	return copies(slices.DeleteFunc(s.rules.siblings(s.now, c.Range), known))
}

// See tells all that is stored.
func (s *Store) See() api.State {
	s.lock.Lock()
	defer s.lock.Unlock()
	state := api.State{Gen: s.now.gen}
	for _, key := range slices.Sorted(maps.Keys(s.now.keys)) {
		state.Keys = append(state.Keys, copies(s.now.keys[key].sibs))
	}
	for _, c := range s.now.clocks {
		state.Clocks = append(state.Clocks, api.Clock{Range: c.Range, Set: slices.Clone(c.Set)})
	}
	for n, h := range s.now.hints {
		state.Hints = append(state.Hints, api.Hint{Owner: n.owner, Write: copyOf(h.write)})
	}
	slices.SortFunc(state.Hints, byNames)
	return state
}

// Dead tells whether the disk went down.
func (s *Store) Dead() bool {
	s.lock.Lock()
	defer s.lock.Unlock()
	return s.dead
}
