package rookery

import (
	"slices"
	"testing"

	"rookery/api"
)

const five = "nodes 5 prefer 3 ranges 4 siblings 3 gap 6 count 1000 keys 6 hints 4 bag 50"

// TestP1803Rows: for each range its preferred nodes, then by pairs what the second lacks of the first.
func TestP1803Rows(t *testing.T) {
	none := []int{0, 0, 0, 0, 0, 0, 0, 0, 0}
	row := func(first []int, lacks ...int) []int { return slices.Concat(first, lacks) }
	first := [][]int{{1, 3, 2}, {2, 4, 3}, {2, 0, 4}, {1, 3, 2}} // chapter 4
	wantCensus(t, five, "", row(first[0], none...), row(first[1], none...), row(first[2], none...), row(first[3], none...))
	// g lies in the range 0, a and k in 1, b in 3
	wantCensus(t, five, "put 1 g v 1; put 2 a v 1; put 2 a w 1; put 4 k v 1; put 3 b v 1; deliver 2; deliver 0",
		row(first[0], 0, 0, 1, 0, 0, 1, 0, 0, 0), // 3 has been handed the write of 1
		row(first[1], 0, 1, 2, 1, 0, 2, 0, 0, 0), // 4 has been handed the first of 2's two, and has minted one
		row(first[2], none...),
		row(first[3], 0, 0, 0, 1, 0, 1, 0, 0, 0))
	wantCensus(t, "nodes 1 prefer 1 ranges 3 siblings 2 gap 4 count 100 keys 2 hints 2 bag 50", "put 0 k v 1", []int{0, 0}, []int{0, 0}, []int{0, 0})
	wantCensus(t, "nodes 3 prefer 1 ranges 1 siblings 2 gap 4 count 100 keys 2 hints 2 bag 50", "put 1 k v 1", []int{1, 0})
}

// TestP1803Bits: dots beyond a base count one by one, and a base's dots too.
func TestP1803Bits(t *testing.T) {
	// 2 is handed the third and the fourth write of 1, not the first two
	wantCensus(t, three, "put 1 k v 1; put 1 k v 1; get 1 k 1; put 1 k v 1 from 3; put 1 k v 1; drop 0; drop 0; drop 0; deliver 0; deliver 0", []int{1, 2, 0, 2, 0, 0})
	// and mints one of its own
	wantCensus(t, three, "put 1 k v 1; put 1 k v 1; get 1 k 1; put 1 k v 1 from 3; drop 0; drop 0; drop 0; deliver 0; put 2 k v 1", []int{1, 2, 0, 2, 1, 0})
}

// TestP1803Hints: what a stand-in keeps is in no clock.
func TestP1803Hints(t *testing.T) {
	wantCensus(t, three, "put 1 k v 2 sloppy; drop 0; fire 1 0; deliver 0; deliver 0", []int{1, 2, 0, 1, 0, 0})
}

// TestP1803Down: a node that is down knows what its disk has: of a commit all, or nothing, as the root was written whole or not.
func TestP1803Down(t *testing.T) {
	wantCensus(t, three, "put 1 k v 1; drop 0; crash 1", []int{1, 2, 0, 1, 0, 0})
	wantCensus(t, three, "put 1 k v 1; drop 0; crash 2", []int{1, 2, 0, 1, 0, 0})
	wantCensus(t, three, "put 1 k v 1; deliver 0; crash 2; crash 1; crash 0", []int{1, 2, 0, 0, 0, 0})
	wantCensus(t, three, "arm 1 0 7; put 1 k v 1", []int{1, 2, 0, 0, 0, 0})
	wantCensus(t, three, "arm 1 8 100; put 1 k v 1", []int{1, 2, 0, 0, 0, 0})
	wantCensus(t, three, "arm 1 8 512; put 1 k v 1", []int{1, 2, 0, 1, 0, 0})
	wantCensus(t, three, "put 1 k v 1; drop 0; arm 1 8 512; put 1 k v 1; drop 0", []int{1, 2, 0, 2, 0, 0})
	wantCensus(t, three, "put 1 k v 1; drop 0; arm 1 8 100; put 1 k v 1; arm 1 4 3; restart 1", []int{1, 2, 0, 1, 0, 0}) // in recovery, too
}

// TestP1803NoState: bytes that can't be opened tell nothing; those of a disk of zeros a node that knows nothing.
func TestP1803NoState(t *testing.T) {
	c, steps := read(t, three, "put 1 k v 1; crash 1")
	image := played(t, c, steps).Do(api.Step{Kind: api.StepImage, Node: 1}).Image
	if got := clock(api.Sight{State: stateOn(image, c, 1)}, 0); !slices.Equal(got, []api.Span{{Node: 1, Base: 1}}) {
		t.Errorf("the bytes of node 1 tell the clock %v", got)
	}
	spoilt := slices.Repeat([]byte{255}, len(image))
	for what, b := range map[string][]byte{"none": nil, "half a sector": image[:256], "too few": image[:512*10], "spoilt": spoilt, "zeros": make([]byte, len(image))} {
		if got := clock(api.Sight{State: stateOn(b, c, 1)}, 0); len(got) != 0 {
			t.Errorf("%s: the clock %v", what, got)
		}
	}
	if got := clock(api.Sight{State: stateOn(image, c, 0)}, 0); len(got) != 0 { // pages that don't fit to the node 0
		t.Errorf("another node's bytes tell the clock %v", got)
	}
}

// TestP1803Errors: Run's, in their order.
func TestP1803Errors(t *testing.T) {
	c, _ := read(t, three, "")
	long := make([]api.Step, api.MaxSteps+1)
	for what, x := range map[string]struct {
		c     api.Config
		steps []api.Step
		want  api.Errno
	}{
		"no config":    {api.Config{}, nil, api.ErrArg},
		"both":         {api.Config{}, long, api.ErrArg},
		"long":         {c, long, api.ErrLong},
		"at the limit": {c, long[1:], api.OK},
		"wrong steps":  {c, []api.Step{{}, {Kind: 99}, {Kind: api.StepSee, Node: -1}}, api.OK},
	} {
		got, err := Census(x.c, x.steps)
		if err != x.want || (err == api.OK) != (len(got) == 1) {
			t.Errorf("%s: %v, %d; want %d", what, got, err, x.want)
		}
		further, err := Settle(x.c, x.steps) // whose errors are these, too
		if err != x.want || (err == api.OK) != (len(further) == 3) {
			t.Errorf("P1802: %s: %v, %d; want %d", what, further, err, x.want)
		}
	}
}
