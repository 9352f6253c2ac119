package cluster

import (
	"bytes"
	"math/rand"
	"slices"
	"testing"
	"unsafe"

	"rookery/api"
)

// piece: the memory of a list, its spare room too.
type piece struct{ from, to uintptr }

func pieceOf[T any](out []piece, l []T) []piece {
	if cap(l) == 0 {
		return out
	}
	from := uintptr(unsafe.Pointer(unsafe.SliceData(l)))
	return append(out, piece{from, from + uintptr(cap(l))*unsafe.Sizeof(*unsafe.SliceData(l))})
}

func writePieces(out []piece, l []api.Write) []piece {
	out = pieceOf(out, l)
	for _, w := range l {
		out = pieceOf(pieceOf(out, w.Value), w.Ctx)
	}
	return out
}

func answerPieces(out []piece, a api.Answer) []piece {
	out = pieceOf(pieceOf(pieceOf(pieceOf(out, a.Done), a.Bag), a.Image), a.Heads)
	for _, d := range a.Done {
		out = writePieces(pieceOf(out, d.Token), d.Writes)
	}
	for _, l := range a.Bag {
		out = pieceOf(out, l.Data)
	}
	s := a.Sight
	out = pieceOf(pieceOf(pieceOf(pieceOf(pieceOf(out, s.Timers), s.Calls), s.State.Keys), s.State.Clocks), s.State.Hints)
	for _, l := range s.State.Keys {
		out = writePieces(out, l)
	}
	for _, c := range s.State.Clocks {
		out = pieceOf(out, c.Set)
	}
	for _, h := range s.State.Hints {
		out = pieceOf(pieceOf(out, h.Write.Value), h.Write.Ctx)
	}
	return out
}

// shared: have two of the pieces memory in common?
func shared(l []piece) bool {
	slices.SortFunc(l, func(a, b piece) int { return int(a.from) - int(b.from) })
	for i := 1; i < len(l); i++ {
		if l[i].from < l[i-1].to {
			return true
		}
	}
	return false
}

// whole: a list with its spare room.
func whole[T any](l []T) []T { return l[:cap(l)] }

func spoilSpans(l []api.Span) {
	for i := range whole(l) {
		whole(l)[i] = sp(4, 44)
	}
}

func spoilWrites(l []api.Write) {
	for _, w := range whole(l) {
		clear(whole(w.Value))
		spoilSpans(w.Ctx)
	}
	for i := range whole(l) {
		whole(l)[i] = api.Write{Key: "spoilt"}
	}
}

func spoilAnswer(a api.Answer) {
	for _, d := range a.Done {
		spoilSpans(d.Token)
		spoilWrites(d.Writes)
	}
	for _, l := range a.Bag {
		clear(whole(l.Data))
	}
	for _, l := range a.Sight.State.Keys {
		spoilWrites(l)
	}
	for _, c := range a.Sight.State.Clocks {
		spoilSpans(c.Set)
	}
	for _, h := range a.Sight.State.Hints {
		spoilWrites([]api.Write{h.Write})
	}
	clear(whole(a.Done))
	clear(whole(a.Bag))
	clear(whole(a.Image))
	clear(whole(a.Heads))
	clear(whole(a.Sight.Timers))
	clear(whole(a.Sight.Calls))
	clear(whole(a.Sight.State.Keys))
	clear(whole(a.Sight.State.Clocks))
	clear(whole(a.Sight.State.Hints))
}

// roomy: the step, its value in memory of its own, with something in its spare room.
func roomy(s api.Step) api.Step {
	s.Value = append(make([]byte, 0, len(s.Value)+5), s.Value...)
	for i := len(s.Value); i < cap(s.Value); i++ {
		whole(s.Value)[i] = 'x'
	}
	return s
}

// looking: behind each step of a script a look at everything.
func looking(c api.Config, steps []api.Step) []api.Step {
	var out []api.Step
	for i, s := range steps {
		out = append(out, s, bagging())
		for node := range c.Nodes {
			out = append(out, seeing(node))
		}
		for client := range 4 {
			out = append(out, asking(client, "k"), asking(client, "a"))
		}
		if i%16 == 0 {
			out = append(out, imaging(i%c.Nodes))
		}
	}
	return out
}

// made: a script that a writer makes up as it is played.
func made(t *testing.T, seed int64, steps int) (api.Config, []api.Step) {
	t.Helper()
	c := with(five(), func(c *api.Config) { c.Siblings, c.Gap = 8, 64 })
	p := fresh(t, c)
	x := &writer{r: rand.New(rand.NewSource(seed)), c: c, keys: []string{"k", "a"}, calm: 3, wrong: 20}
	var out []api.Step
	for range steps {
		out = append(out, x.step(p.sight()))
		p.Do(out[len(out)-1])
	}
	return c, out
}

// TestP1602NoTwoShare: of all that goes in and comes out, no two lists have memory in common.
func TestP1602NoTwoShare(t *testing.T) {
	c, steps := made(t, 1, 200)
	p := fresh(t, c)
	var in []api.Step // all are kept, so that no memory is given out twice
	var out []api.Answer
	for _, s := range looking(c, steps) {
		in = append(in, roomy(s))
		out = append(out, p.Do(in[len(in)-1]))
	}
	answers, err := Run(c, in[:100])
	if err != api.OK {
		t.Fatalf("Run: %d", err)
	}
	var all []piece
	for _, s := range in {
		all = pieceOf(all, s.Value)
	}
	for _, a := range append(out, answers...) {
		all = answerPieces(all, a)
	}
	if len(all) < 5000 {
		t.Errorf("only %d lists", len(all))
	}
	if shared(all) {
		t.Errorf("of %d lists two have memory in common", len(all))
	}
}

// TestP1602NothingKept: what went in and came out may be spoilt behind each step: all goes on as it would have.
func TestP1602NothingKept(t *testing.T) {
	tokens := 0
	for seed := range int64(20) {
		c, steps := made(t, seed, 150)
		p, q := fresh(t, c), fresh(t, c)
		for i, s := range looking(c, steps) {
			in := roomy(s)
			a, b := p.Do(s), q.Do(in)
			if showAnswer(a) != showAnswer(b) || !bytes.Equal(a.Image, b.Image) {
				t.Fatalf("seed %d, step %d, %+v: %s; spoilt: %s", seed, i, s, showAnswer(a), showAnswer(b))
			}
			clear(whole(in.Value))
			spoilAnswer(b)
			if s.Kind == api.StepPut && s.From != 0 && a.Err == api.OK {
				tokens++
			}
		}
	}
	if tokens < 50 {
		t.Errorf("only %d Puts carried a token", tokens)
	}
}

// TestP1602NothingChanged: a step's value is not, its spare room neither, whatever becomes of the step.
func TestP1602NothingChanged(t *testing.T) {
	for seed := range int64(10) {
		c, steps := made(t, seed, 150)
		p := fresh(t, c)
		in := make([]api.Step, len(steps))
		for i, s := range steps {
			in[i] = roomy(s)
			p.Do(in[i])
		}
		if _, err := Run(c, in); err != api.OK {
			t.Fatalf("Run: %d", err)
		}
		for i, s := range steps {
			if want := roomy(s); !bytes.Equal(whole(in[i].Value), whole(want.Value)) || len(in[i].Value) != len(want.Value) {
				t.Errorf("%+v: its value has changed", s)
			}
		}
	}
}
