package rookery

import (
	"fmt"
	"math/rand"
	"slices"
	"sync"
	"testing"

	"rookery/api"
	"rookery/script"
)

// full: a list with its spare room.
func full[T any](l []T) []T { return l[:cap(l)] }

// roomy: the steps in memory of their own, with something in their spare room, and that of their values.
func roomy(steps []api.Step) []api.Step {
	out := make([]api.Step, len(steps), len(steps)+3)
	for i, s := range steps {
		s.Value = append(make([]byte, 0, len(s.Value)+4), s.Value...)
		copy(full(s.Value)[len(s.Value):], "spare")
		out[i] = s
	}
	for i := range full(out)[len(steps):] {
		full(out)[len(steps)+i] = api.Step{Kind: 7, Key: "spare"}
	}
	return out
}

func shown(steps []api.Step) string {
	text := ""
	for _, s := range full(steps) {
		text += fmt.Sprintf("%+v %q\n", s, full(s.Value))
	}
	return text
}

// scripts: some that come to rest.
func scripts(count int64, run func(c api.Config, steps []api.Step)) {
	for seed := range count {
		r := rand.New(rand.NewSource(seed))
		c := roomyConfig(r)
		run(c, fewPuts(madeUp(r, c, 80)))
	}
}

// TestOwnNothingChanged: steps that are handed in stay as they are, their spare room too.
func TestOwnNothingChanged(t *testing.T) {
	scripts(10, func(c api.Config, steps []api.Step) {
		in := roomy(steps)
		was := shown(in)
		Settle(c, in)
		Census(c, in)
		if shown(in) != was {
			t.Errorf("%v: steps have changed", c)
		}
	})
}

// TestOwnMemory: what is answered may be spoilt, its spare room too: nothing else is.
func TestOwnMemory(t *testing.T) {
	scripts(10, func(c api.Config, steps []api.Step) {
		first, _ := Settle(c, steps)
		second, _ := Settle(c, steps)
		was := spelt(t, second)
		clear(full(first))
		third, _ := Settle(c, steps)
		if spelt(t, second) != was || spelt(t, third) != was {
			t.Errorf("%v: what was answered first is in what is answered later", c)
		}
		census, _ := Census(c, steps)
		for i, row := range census {
			others := fmt.Sprint(census[:i], census[i+1:])
			clear(full(row))
			if fmt.Sprint(census[:i], census[i+1:]) != others {
				t.Errorf("%v: the rows of two ranges have memory in common", c)
			}
		}
	})
}

// TestOwnEverySchedule: many at once answer as one alone.
func TestOwnEverySchedule(t *testing.T) {
	scripts(4, func(c api.Config, steps []api.Step) {
		text, _ := script.Print(c, steps)
		answer := func() string {
			further, _ := Settle(c, steps)
			census, _ := Census(c, steps)
			return fmt.Sprint(further, census, Play(text))
		}
		want := answer()
		got := make([]string, 8)
		var all sync.WaitGroup
		for i := range got {
			all.Go(func() { got[i] = answer() })
		}
		all.Wait()
		if slices.ContainsFunc(got, func(s string) bool { return s != want }) {
			t.Errorf("%v: one of many at once is answered otherwise", c)
		}
	})
}
