package fsck

import (
	"bytes"
	"testing"

	"rookery/api"
)

// fifth: the state of the fifth row: k has 1.1{} and 1.2{}.
func fifth() api.State {
	return state(3, clocks(cl(0, sp(1, 2))), nil, list(with("", wr(1, 1)), with("", wr(1, 2))))
}

func TestExamples(t *testing.T) {
	c := three()
	empty := state(0, clocks(cl(0)), nil)
	wantFinds(t, "row 2", make([]byte, size), c, 1)
	wantDump(t, "row 2", make([]byte, size), c, 1, empty)
	d := newDisk(t)
	opened(t, d, c, 1)
	wantFinds(t, "row 3", d.Image(), c, 1)
	wantDump(t, "row 3", d.Image(), c, 1, state(1, clocks(cl(0)), nil))
	ones := changed(make([]byte, size), 0, bytes.Repeat([]byte{255}, 1024)...)
	wantFinds(t, "row 4", ones, c, 1, find(FindRoot, -1, 0))
	wantDump(t, "row 4", ones, c, 1, empty)
	b := rebuilt(t, fifth(), c, 1)
	wantFinds(t, "row 5", b, c, 1)
	wantDump(t, "row 5", b, c, 1, fifth())
	x := changed(b, 512*8, 9)
	wantFinds(t, "row 6", x, c, 1, find(FindPage, 0, 0), find(FindDot, 1, 0), find(FindDot, 1, 1))
	wantDump(t, "row 6", x, c, 1, empty)
	wantFinds(t, "row 7", b, c, 0, find(FindClock, 0, 0), find(FindKey, 1, 0), find(FindDot, 1, 0), find(FindDot, 1, 1))
	wantDump(t, "row 7", b, c, 0, state(3, nil, nil))
	one := c
	one.Count = 1
	wantFinds(t, "row 8", b, one, 1, find(FindClock, 0, 0), find(FindDot, 1, 0), find(FindWrite, 1, 1))
	wantDump(t, "row 8", b, one, 1, state(3, clocks(cl(0)), nil))
	wantSalvage(t, "row 5", b, c, 1, fifth().Keys[0]...)
	wantSalvage(t, "row 6", x, c, 1, fifth().Keys[0]...)
}

// TestExamplesErrors: row 1.
func TestExamplesErrors(t *testing.T) {
	nine := three()
	nine.Nodes = 9
	wantRefused(t, "413695 bytes", make([]byte, 413695), three(), 1, api.ErrImage)
	wantRefused(t, "Nodes 9", make([]byte, size), nine, 1, api.ErrArg)
	wantRefused(t, "me = 3", make([]byte, size), three(), 3, api.ErrNode)
}

func TestExamplesRebuild(t *testing.T) {
	c := three()
	s := state(0, nil, nil, list(wr(1, 1)))
	wantNoImage(t, "no clock", s, c, 1)
	s.Clocks = clocks(cl(0, sp(1, 1)))
	see := opened(t, diskOf(t, rebuilt(t, s, c, 1)), c, 1).See()
	if s.Gen = 1; showState(see) != showState(s) {
		t.Errorf("Open: %s; want %s", showState(see), showState(s))
	}
}

// wantRefused: the three calls that are handed an image refuse it so, and tell nothing.
func wantRefused(t *testing.T, what string, image []byte, c api.Config, me int, want api.Errno) {
	t.Helper()
	if l, err := Look(image, c, me); l != nil || err != want {
		t.Errorf("%s: Look: %v, %d; want %d", what, l, err, want)
	}
	if s, err := Dump(image, c, me); s.Gen != 0 || s.Keys != nil || s.Clocks != nil || s.Hints != nil || err != want {
		t.Errorf("%s: Dump: %s, %d; want %d", what, showState(s), err, want)
	}
	if l, err := Salvage(image, c, me); l != nil || err != want {
		t.Errorf("%s: Salvage: %s, %d; want %d", what, showAll(l), err, want)
	}
}
