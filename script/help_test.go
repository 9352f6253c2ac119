package script

import (
	"reflect"
	"testing"

	"rookery/api"
)

// head: the config's line of the chapter's examples.
const head = "nodes 3 prefer 2 ranges 1 siblings 2 gap 4 count 100 keys 2 hints 2 bag 50\n"

func three() api.Config {
	return api.Config{Nodes: 3, Prefer: 2, Ranges: 1, Siblings: 2, Gap: 4, Count: 100, Keys: 2, Hints: 2, Bag: 50}
}

// sameSteps: nil and an empty list are the same.
func sameSteps(a, b []api.Step) bool {
	bare := func(l []api.Step) []api.Step {
		out := []api.Step{}
		for _, s := range l {
			if len(s.Value) == 0 {
				s.Value = nil
			}
			out = append(out, s)
		}
		return out
	}
	return reflect.DeepEqual(bare(a), bare(b))
}

// wantScript: the text means this.
func wantScript(t *testing.T, text string, c api.Config, steps ...api.Step) {
	t.Helper()
	got, l, line, column, err := Parse(text)
	if err != api.OK || line != 0 || column != 0 || got != c || !sameSteps(l, steps) {
		t.Errorf("Parse(%s): %v, %v, %d, %d, %d; want %v, %v", short(text), got, l, line, column, err, c, steps)
	}
}

// wantPlace: the text is no script, from this place on.
func wantPlace(t *testing.T, text string, line, column int) {
	t.Helper()
	c, l, n, at, err := Parse(text)
	if err != api.ErrScript || n != line || at != column || c != (api.Config{}) || len(l) != 0 {
		t.Errorf("Parse(%s): %v, %d steps, %d, %d, %d; want ErrScript at %d, %d", short(text), c, len(l), n, at, err, line, column)
	}
}

// wantLong: ErrLong, and nothing else.
func wantLong(t *testing.T, text string) {
	t.Helper()
	c, l, n, at, err := Parse(text)
	if err != api.ErrLong || n != 0 || at != 0 || c != (api.Config{}) || len(l) != 0 {
		t.Errorf("Parse(%s): %v, %d steps, %d, %d, %d; want ErrLong", short(text), c, len(l), n, at, err)
	}
}

func wantPrint(t *testing.T, c api.Config, steps []api.Step, want string) {
	t.Helper()
	if got, err := Print(c, steps); err != api.OK || got != want {
		t.Errorf("Print(%v, %d steps): %s, %d; want %s", c, len(steps), short(got), err, short(want))
	}
}

func wantRefused(t *testing.T, steps []api.Step, want api.Errno) {
	t.Helper()
	if got, err := Print(three(), steps); err != want || got != "" {
		t.Errorf("Print of %d steps: %s, %d; want %d", len(steps), short(got), err, want)
	}
}

// short: a text, or its beginning, to be shown.
func short(text string) string {
	if len(text) > 400 {
		return text[:400] + " .."
	}
	return text
}

// sample: a line of the table of P1704, and its step.
type sample struct {
	line string
	step api.Step
}

// samples: each line of the table, with all that may be missing there and not.
func samples() []sample {
	b := func(s string) []byte { return []byte(s) }
	return []sample{
		{"put 1 k v 2", api.Step{Kind: api.StepPut, Node: 1, Key: "k", Value: b("v"), Quorum: 2}},
		{"put 1 k v 2 sloppy", api.Step{Kind: api.StepPut, Node: 1, Key: "k", Value: b("v"), Quorum: 2, Sloppy: true}},
		{"put 1 k v 2 from 3", api.Step{Kind: api.StepPut, Node: 1, Key: "k", Value: b("v"), Quorum: 2, From: 3}},
		{"put 1 k v 2 sloppy from 3", api.Step{Kind: api.StepPut, Node: 1, Key: "k", Value: b("v"), Quorum: 2, Sloppy: true, From: 3}},
		{"del 4 key 5", api.Step{Kind: api.StepPut, Dead: true, Node: 4, Key: "key", Quorum: 5}},
		{"del 4 key 5 sloppy", api.Step{Kind: api.StepPut, Dead: true, Node: 4, Key: "key", Quorum: 5, Sloppy: true}},
		{"del 4 key 5 from -6", api.Step{Kind: api.StepPut, Dead: true, Node: 4, Key: "key", Quorum: 5, From: -6}},
		{"del 4 key 5 sloppy from 16", api.Step{Kind: api.StepPut, Dead: true, Node: 4, Key: "key", Quorum: 5, Sloppy: true, From: 16}},
		{"get 6 k%00 7", api.Step{Kind: api.StepGet, Node: 6, Key: "k\x00", Quorum: 7}},
		{"get 6 k%00 7 sloppy", api.Step{Kind: api.StepGet, Node: 6, Key: "k\x00", Quorum: 7, Sloppy: true}},
		{"deliver 8", api.Step{Kind: api.StepDeliver, I: 8}},
		{"drop 9", api.Step{Kind: api.StepDrop, I: 9}},
		{"double 10", api.Step{Kind: api.StepDouble, I: 10}},
		{"move 11 12", api.Step{Kind: api.StepMove, I: 11, J: 12}},
		{"fire 13 14", api.Step{Kind: api.StepFire, Node: 13, I: 14}},
		{"crash 15", api.Step{Kind: api.StepCrash, Node: 15}},
		{"restart 16", api.Step{Kind: api.StepRestart, Node: 16}},
		{"see 17", api.Step{Kind: api.StepSee, Node: 17}},
		{"image 18", api.Step{Kind: api.StepImage, Node: 18}},
		{"arm 19 -20 21", api.Step{Kind: api.StepArm, Node: 19, I: -20, J: 21}},
		{"bag", api.Step{Kind: api.StepBag}},
		{"write 22 k v%20w 23", api.Step{Kind: api.StepWrite, Client: 22, Key: "k", Value: b("v w"), Quorum: 23}},
		{"wipe 24 k 25", api.Step{Kind: api.StepWrite, Dead: true, Client: 24, Key: "k", Quorum: 25}},
		{"read 26 k 27", api.Step{Kind: api.StepRead, Client: 26, Key: "k", Quorum: 27}},
		{"client 28 k", api.Step{Kind: api.StepClient, Client: 28, Key: "k"}},
	}
}
