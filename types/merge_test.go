package types

import (
	"testing"

	"rookery/api"
)

// TestP1909Refused: nothing, or another type; nothing changes then.
func TestP1909Refused(t *testing.T) {
	texts := []string{"01 01 05 00 00 00 00 00", "02 01 01 00 01 01 61 01 01 00", "03 01 01 00 01 01 00", "04 01 00 00 00 61"}
	for _, mine := range texts {
		v := of(t, mine)
		wantRefused(t, "Merge of nil", v, func() api.Errno { return v.Merge(nil) }, api.ErrType)
		for _, theirs := range texts {
			o := of(t, theirs)
			want := api.ErrType
			if mine == theirs {
				want = api.OK
			}
			wantRefused(t, "Merge of "+theirs, v, func() api.Errno { return v.Merge(o) }, want)
			wantBytes(t, o, theirs)
		}
		wantRefused(t, "Merge with itself", v, func() api.Errno { return v.Merge(v) }, api.OK)
	}
}

// TestP1909Counter: the greater up and the greater down, of each actor by itself.
func TestP1909Counter(t *testing.T) {
	wantBoth(t, "01 00", "01 00", "01 00")
	wantBoth(t, "01 01 05 00 00 01 00 00", "01 00", "01 01 05 00 00 01 00 00")
	wantBoth(t, "01 01 05 00 00 01 00 00", "01 01 04 00 00 02 00 00", "01 01 05 00 00 02 00 00")
	wantBoth(t, "01 01 FF 00 00 00 00 01", "01 81 00 01 00 FF FF 00 01 00 00 01 00 00", "01 81 00 01 00 00 00 01 01 00 00 01 00 00")
}

// TestP1909Set: each case of a tag that one has: the other has it, has taken it away, has not come to it; by elements.
func TestP1909Set(t *testing.T) {
	const none, a, gone = "02 00 00", "02 01 01 00 01 01 61 01 01 00", "02 01 01 00 00"
	wantBoth(t, none, none, none)
	wantBoth(t, a, none, a)
	wantBoth(t, a, a, a)
	wantBoth(t, a, gone, gone)
	wantBoth(t, gone, none, gone)
	wantBoth(t, a, "02 01 02 00 01 01 61 01 02 00", "02 01 02 00 01 01 61 01 02 00")                               // put again
	wantBoth(t, a, "02 01 02 00 01 01 62 01 02 00", "02 01 02 00 01 01 62 01 02 00")                               // taken, and another put
	wantBoth(t, a, "02 01 02 00 02 01 61 01 01 00 01 62 01 02 00", "02 01 02 00 02 01 61 01 01 00 01 62 01 02 00") // another put beside it
	wantBoth(t, a, "02 02 01 00 01 01 61 02 01 00", "02 03 01 00 01 00 01 01 61 03 01 00 01 00")                   // both have put it
	wantBoth(t, a, "02 03 01 00 01 00 01 01 61 02 01 00", "02 03 01 00 01 00 01 01 61 02 01 00")                   // the other has put it over this one
	wantBoth(t, "02 01 02 00 01 01 61 01 01 00", "02 01 02 00 01 01 61 01 02 00", "02 01 02 00 00")                // each has reached the other's, and has it not
	wantBoth(t, a, "02 01 01 00 01 01 62 01 01 00", gone)                                                          // one tag, of two elements: each lacks the other's
	wantBoth(t, "02 01 01 00 02 01 61 01 01 00 01 62 01 01 00", a, a)                                              // of one tag's two elements one is taken
	wantBoth(t, "02 01 09 00 01 01 61 01 05 00", "02 01 05 00 01 01 61 01 05 00", "02 01 09 00 01 01 61 01 05 00") // at the count
	wantBoth(t, "02 01 09 00 01 01 61 01 05 00", "02 01 05 00 00", "02 01 09 00 00")                               // at the count, taken
	wantBoth(t, "02 01 09 00 01 01 61 01 05 00", "02 01 04 00 00", "02 01 09 00 01 01 61 01 05 00")                // just above it
	wantBoth(t, "02 02 01 00 02 01 61 02 01 00 01 63 02 01 00", "02 01 01 00 01 01 62 01 01 00", "02 03 01 00 01 00 03 01 61 02 01 00 01 62 01 01 00 01 63 02 01 00")
}

// TestP1909Flag: as of one element.
func TestP1909Flag(t *testing.T) {
	const none, on, off = "03 00 00", "03 01 01 00 01 01 00", "03 01 01 00 00"
	wantBoth(t, none, none, none)
	wantBoth(t, on, none, on)
	wantBoth(t, on, on, on)
	wantBoth(t, on, off, off)
	wantBoth(t, on, "03 01 02 00 01 02 00", "03 01 02 00 01 02 00")
	wantBoth(t, on, "03 02 01 00 02 01 00", "03 03 01 00 01 00 03 01 00 01 00")
	wantBoth(t, on, "03 03 01 00 01 00 02 01 00", "03 03 01 00 01 00 02 01 00")
	wantBoth(t, off, "03 02 01 00 02 01 00", "03 03 01 00 01 00 02 01 00")
	wantBoth(t, "03 01 02 00 01 01 00", "03 01 02 00 01 02 00", "03 01 02 00 00")
	wantBoth(t, "03 01 09 00 01 05 00", "03 01 05 00 00", "03 01 09 00 00")
	wantBoth(t, "03 01 09 00 01 05 00", "03 01 04 00 00", "03 01 09 00 01 05 00")
}

// TestP1909Register: by stamp, then by actor, then by text.
func TestP1909Register(t *testing.T) {
	rising := []string{
		"04 00 00 00 00", "04 01 00 00 00", "04 01 00 00 00 00", "04 01 00 00 00 61", "04 01 00 00 00 61 00", "04 01 00 00 00 61 62", "04 01 00 00 00 62", "04 01 00 00 00 7F", "04 01 00 00 00 80", "04 01 00 00 00 FF FF",
		"04 01 00 00 01", "04 01 00 00 07 61", "04 02 00 00 00", "04 02 00 00 03 61", "04 00 01 00 00", "04 FF FF 00 00 61", "04 00 00 01 00", "04 FF FF FF 07",
	}
	for i, greater := range rising {
		for _, lesser := range rising[:i+1] {
			wantBoth(t, lesser, greater, greater)
		}
	}
}
