package rookery

import "testing"

// TestExamples: those of the chapter.
func TestExamples(t *testing.T) {
	wantSettle(t, three, "", "arm 0 -1 0; arm 1 -1 0; arm 2 -1 0")
	wantCensus(t, three, "", []int{1, 2, 0, 0, 0, 0})
	wantCensus(t, three, "put 1 k v 1; drop 0", []int{1, 2, 0, 1, 0, 0})
	wantSettle(t, three, "put 1 k v 1; drop 0", "arm 0 -1 0; arm 1 -1 0; arm 2 -1 0; "+
		"fire 0 0; fire 0 0; "+ // nobody to compare with, nothing to hand back
		"fire 1 0; fire 1 0; deliver 0; fire 1 0; "+ // the call's timer; 1 asks 2, which knows no more
		"fire 2 0; deliver 0; deliver 0; fire 2 0") // 2 asks 1, and is shipped the write
}
