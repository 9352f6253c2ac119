package page

import (
	"bytes"
	"testing"

	"rookery/api"
)

// The pages of the first table of chapter 7.
const (
	first  = "01 05 00 00 00 00 00 00"
	second = "01 01 00 00 00 00 00 01 02 02 00 03 00 00 00 00 00 00 00 00 00 00 00 02 00 00 00 00 02 00 00 00 00 00 00 00"
	third  = "02 01 6B 01 00 01 00 00 00 00 01 76 00"
	fourth = "02 01 6B 01 01 2C 01 00 00 01 00 01 00 01 00 00 00 00 00 00 00 00 00 00 00"
	fifth  = "03 04 01 6B 00 01 00 00 00 00 00 00"
)

// TestExamplesBuilt: the first table, row by row.
func TestExamplesBuilt(t *testing.T) {
	for _, row := range []struct {
		c    content
		text string
	}{
		{ofClocks(5), first}, {ofClocks(1, cl(2, sp(0, 3), sp(2, 0, 2))), second}, {ofKey(with("v", wr(0, 1))), third},
		{ofKey(gone(wr(1, 300, sp(0, 1)))), fourth}, {ofHint(4, with("", wr(0, 1))), fifth},
	} {
		b, err := build(row.c)
		wantPage(t, "a page of the table", b, err, pg(t, row.text))
		wantRight(t, pg(t, row.text), row.c.kind)
		if c := told(t, opened(t, pg(t, row.text))); !sameContent(c, row.c) {
			t.Errorf("%s tells %+v", row.text, c)
		}
	}
}

// TestExamplesLookedAt: the second table, row by row.
func TestExamplesLookedAt(t *testing.T) {
	wantWrong(t, nil, 0)
	wantWrong(t, pg(t, "01")[:2047], 2047)
	wantWrong(t, append(pg(t, "01"), 0), 2048)
	wantWrong(t, make([]byte, 2048), 0)
	wantWrong(t, pg(t, "02 01 6B 01 00 01 00 00 00 02"), 9)
	wantWrong(t, pg(t, "02 01 6B 01 00 00"), 5)
	far := pg(t, first)
	far[100] = 9
	wantWrong(t, far, 100)
	wantWrong(t, pg(t, "01 00 00 00 00 00 00 01 00 01 00"), 15)
	wantNoKeyPage(t, list(wr(0, 2), wr(0, 1)), api.ErrArg)
	wantNoKeyPage(t, list(wr(0, 1), of("j", wr(0, 2))), api.ErrKey)
	wantNoKeyPage(t, list(with("v", gone(wr(0, 1)))), api.ErrWrite)

	b := pg(t, third)
	v := opened(t, b)
	x, err := v.Value(0)
	if string(x) != "\x76" || err != api.OK {
		t.Fatalf("Value(0): % x, %d", x, err)
	}
	x[0] = 0x57
	again, _ := v.Value(0)
	w, _ := v.Write(0)
	if b[11] != 0x57 || string(again) != "W" || !bytes.Equal(w.Value, []byte("W")) {
		t.Errorf("the page's byte 11: %x; Value(0): %q; Write(0): %+v", b[11], again, w)
	}
}
