package script

import (
	"testing"

	"rookery/api"
	"rookery/cluster"
)

// TestExamples: the table of chapter 17, row by row.
func TestExamples(t *testing.T) {
	wantScript(t, head+"put 0 k v 1\nget 1 k 2 sloppy\n", three(),
		api.Step{Kind: api.StepPut, Key: "k", Value: []byte("v"), Quorum: 1}, api.Step{Kind: api.StepGet, Node: 1, Key: "k", Quorum: 2, Sloppy: true})
	wantScript(t, head+"del 0 a%20b 1 sloppy from 3\n", three(), api.Step{Kind: api.StepPut, Key: "a b", Dead: true, Quorum: 1, Sloppy: true, From: 3})
	wantScript(t, head+"put 0 - - 1\n", three(), api.Step{Kind: api.StepPut, Quorum: 1})
	wantPlace(t, "", 1, 1)
	wantPlace(t, "# only this\n", 2, 1)
	wantPlace(t, "nodes 3", 1, 8)
	wantPlace(t, "nodes 03 prefer 2 ranges 1 siblings 2 gap 4 count 100 keys 2 hints 2 bag 50\n", 1, 8)
	wantPlace(t, "node 3 prefer 2 ranges 1 siblings 2 gap 4 count 100 keys 2 hints 2 bag 50\n", 1, 5)
	wantPlace(t, head+"put 0 %61 v 1\n", 2, 9)
	wantPlace(t, head+"put 0 %6a v 1\n", 2, 9)
	wantPlace(t, head+"get 0 k 1 from 2\n", 2, 11)
	wantPlace(t, head+"put 0 k v 1 from 0\n", 2, 18)
	wantPlace(t, head+"crash 9223372036854775808\n", 2, 25)
}

// TestExampleOfAnswers: those of example 1 of chapter 16, printed from a script that was read.
func TestExampleOfAnswers(t *testing.T) {
	c, steps, _, _, err := Parse(head + "put 1 k v 1\n")
	if err != api.OK {
		t.Fatalf("Parse: %d", err)
	}
	answers, err := cluster.Run(c, steps)
	if err != api.OK {
		t.Fatalf("Run: %d", err)
	}
	const want = "1 0\ncall 1\ndone 1 0\nwrite 1 1 k value v -\n"
	if got := PrintAnswers(answers); got != want {
		t.Errorf("PrintAnswers: %s; want %s", got, want)
	}
}
