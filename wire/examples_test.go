package wire

import (
	"testing"

	"rookery/api"
)

// TestExamplesWritten: the first table of chapter 6, row by row.
func TestExamplesWritten(t *testing.T) {
	b, err := PutSet(nil)
	wantBytes(t, "PutSet of nothing", b, err, hx(t, "00"))
	b, err = PutSet(spans(sp(2, 5, 7, 9)))
	wantBytes(t, "PutSet", b, err, hx(t, "01 02 05 0A"))
	b, err = PutSet(spans(sp(0, 300)))
	wantBytes(t, "PutSet of 300", b, err, hx(t, "01 00 AC 02 00"))
	b, err = PutWrite(with("v", wr(1, 2)))
	wantBytes(t, "PutWrite", b, err, hx(t, "01 02 01 6B 00 01 76 00"))
	b, err = PutWrite(gone(of("ab", wr(0, 300, sp(1, 1)))))
	wantBytes(t, "PutWrite of a dead one", b, err, hx(t, "00 AC 02 02 61 62 01 01 01 01 00"))
	for _, row := range []struct {
		m    api.Msg
		text string
	}{
		{api.Msg{Kind: api.MsgStored, From: 1, To: 0, Call: 7, Owner: 1}, "02 01 00 07 01"},
		{api.Msg{Kind: api.MsgAsk, From: 0, To: 2, Call: 4096, Key: "k"}, "04 00 02 80 20 01 6B"},
		{api.Msg{Kind: api.MsgTook, From: 2, To: 1, Key: "k", Dot: dot(0, 3)}, "0B 02 01 01 6B 00 03"},
		{api.Msg{Kind: api.MsgTell, From: 1, To: 0, Call: 1, Key: "k", Set: spans(sp(0, 2))}, "05 01 00 01 01 6B 01 00 02 00 00"},
	} {
		b, err := Encode(row.m)
		wantBytes(t, "Encode", b, err, hx(t, row.text))
		wantDecoded(t, hx(t, row.text), row.m)
	}
}

// TestExamplesRead: the second table of chapter 6, row by row.
func TestExamplesRead(t *testing.T) {
	for _, row := range []struct {
		text string
		at   int
	}{
		{"", 0}, {"02 01", 2}, {"0C 00 00", 0}, {"02 08 00", 1}, {"02 00 00 81 20 01", 3},
		{"02 01 00 07 01 00", 5}, {"02 81 00 00 07 01", 1}, {"0B 02 01 00", 3}, {"08 00 01 00 01 03 00 00", 7},
		{"08 00 01 00 02 03 01 00 03 01 00", 8}, {"05 01 00 01 01 6B 01 00 02 02 00", 9},
	} {
		wantWrong(t, hx(t, row.text), row.at)
	}
	wantNoWrite(t, hx(t, "01 02 01 6B 00 00 01 01 02 00"), 0, 6, api.ErrWire)
	wantGetWrite(t, hx(t, "FF 01 02 01 6B 01 00 77"), 1, gone(wr(1, 2)), 7)
	set := hx(t, "01 02 05 0A")
	wantGetSet(t, set, 0, spans(sp(2, 5, 7, 9)), 4)
	wantNoSet(t, set, 4, 4, api.ErrWire)
	wantNoSet(t, set, 5, 0, api.ErrArg)
}
