package types

import (
	"fmt"
	"maps"
	"math/rand"
	"slices"
	"testing"

	"rookery/api"
)

// event: something that was done to a value, and what had been seen there by then.
type event struct {
	kind  int // Set: a Put or a Take; Flag: on or off
	actor int // -1: none, as of a Take
	on    bool
	by    int
	name  string // an element, or a text
	past  map[int]int
}

// copyOf: a value somewhere, and the numbers of the events that have come to it.
type copyOf struct {
	v    *Value
	seen map[int]int
}

// story: copies of one value, and all that was done to them.
type story struct {
	t      *testing.T
	r      *rand.Rand
	kind   int
	events []event
	copies []copyOf
}

func newStory(t *testing.T, seed int64, kind int) *story {
	s := &story{t: t, r: rand.New(rand.NewSource(seed)), kind: kind}
	for range 2 + s.r.Intn(4) {
		s.copies = append(s.copies, copyOf{fresh(t, kind), map[int]int{}})
	}
	return s
}

// goesOn: whether the copy has all that the actor has done: else it may do nothing there.
func (s *story) goesOn(c copyOf, actor int) bool {
	for i, e := range s.events {
		if e.actor == actor && c.seen[i] == 0 {
			return false
		}
	}
	return true
}

// does something to a copy, if there is an actor who may.
func (s *story) does(c copyOf) {
	e := event{kind: s.kind, actor: s.r.Intn(8), on: s.r.Intn(3) > 0, by: s.r.Intn(200) - 100, past: maps.Clone(c.seen)}
	if !s.goesOn(c, e.actor) {
		return
	}
	err := api.OK
	switch s.kind {
	case Counter:
		err = c.v.Add(e.actor, e.by)
	case Set:
		if e.name = oneOf(s.r, "a", "b", "c"); e.on {
			err = c.v.Put(e.actor, []byte(e.name))
		} else {
			e.actor = -1
			err = c.v.Take([]byte(e.name))
		}
	case Flag:
		err = c.v.Switch(e.actor, e.on)
	case Register:
		e.name = fmt.Sprint("text ", len(s.events))
		err = c.v.Write(e.actor, []byte(e.name))
	}
	if s.kind == Set && err == api.ErrWide {
		return
	}
	wantErr(s.t, "doing something", err, api.OK)
	c.seen[len(s.events)] = 1
	s.events = append(s.events, e)
}

// meets: one copy is merged into another, in whichever way there is.
func (s *story) meets(i, j int) {
	c, o := s.copies[i], s.copies[j]
	mine, err := c.v.Bytes()
	theirs, other := o.v.Bytes()
	switch {
	case s.r.Intn(2) == 0 || err != api.OK || other != api.OK:
		wantErr(s.t, "Merge", c.v.Merge(o.v), api.OK)
	default:
		v, err := Resolve(s.kind, []api.Write{{Value: mine}, {Value: theirs}})
		wantErr(s.t, "Resolve", err, api.OK)
		s.copies[i].v = v
	}
	maps.Copy(c.seen, o.seen)
}

// left: the events among those seen that may count, and that no other one, of those that may be over them, has seen.
func (s *story) left(c copyOf, counts, over func(e event) bool) []event {
	var out []event
	for i := range c.seen {
		isOver := func(j int) bool { return s.events[j].past[i] == 1 && over(s.events[j]) }
		if counts(s.events[i]) && !slices.ContainsFunc(slices.Collect(maps.Keys(c.seen)), isOver) {
			out = append(out, s.events[i])
		}
	}
	return out
}

func all(event) bool { return true }

func isOn(e event) bool { return e.on }

// check: what P1912 says of a copy.
func (s *story) check(c copyOf) {
	s.t.Helper()
	switch s.kind {
	case Counter:
		sum := 0
		for i := range c.seen {
			sum += s.events[i].by
		}
		if c.v.Sum() != sum {
			s.t.Errorf("the sum %d; want %d", c.v.Sum(), sum)
		}
	case Set:
		var want []string
		for _, name := range []string{"a", "b", "c"} {
			named := func(e event) bool { return e.name == name }
			put := func(e event) bool { return e.name == name && e.on }
			if len(s.left(c, put, named)) > 0 {
				want = append(want, name)
			}
		}
		wantElements(s.t, c.v, want...)
	case Flag:
		off := func(e event) bool { return !e.on }
		if want := len(s.left(c, isOn, off)) > 0; c.v.On() != want {
			s.t.Errorf("on: %v; want %v", c.v.On(), want)
		}
	case Register:
		last := s.left(c, all, all)
		text := string(c.v.Text())
		if len(last) == 0 && text != "" || len(last) > 0 && !slices.ContainsFunc(last, func(e event) bool { return e.name == text }) {
			s.t.Errorf("the text %q; want that of one of %v", text, last)
		}
	}
}

// TestP1912Stories: actors do something here and there, copies meet; at last all of them meet, in any order and twice.
func TestP1912Stories(t *testing.T) {
	for seed := range int64(1200) {
		s := newStory(t, seed, kinds[seed%4])
		for range 40 {
			i, j := s.r.Intn(len(s.copies)), s.r.Intn(len(s.copies))
			if s.r.Intn(3) > 0 {
				s.does(s.copies[i])
			} else {
				s.meets(i, j)
			}
			s.check(s.copies[i])
		}
		for range 2 {
			for _, i := range s.r.Perm(len(s.copies)) {
				for _, j := range s.r.Perm(len(s.copies)) {
					s.meets(i, j)
				}
			}
		}
		for _, c := range s.copies {
			if len(c.seen) != len(s.events) {
				t.Fatalf("a copy has met %d of %d events", len(c.seen), len(s.events))
			}
			s.check(c)
			wantAlike(t, "behind all", c.v, s.copies[0].v)
		}
		if t.Failed() {
			t.Fatalf("seed %d", seed)
		}
	}
}

// TestP1912NotGoingOn: an actor that does something to a value that lacks what it did earlier: the calls go as they are said.
func TestP1912NotGoingOn(t *testing.T) {
	a, b := fresh(t, Counter), fresh(t, Counter)
	a.Add(0, 5)
	b.Add(0, 3)
	a.Merge(b)
	wantBytes(t, a, "01 01 05 00 00 00 00 00")
	v, w := fresh(t, Set), fresh(t, Set)
	v.Put(0, []byte("a"))
	w.Put(0, []byte("b"))
	v.Merge(w)
	wantBytes(t, v, "02 01 01 00 00")
}
