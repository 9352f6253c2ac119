package types

import (
	"testing"

	"rookery/api"
)

// TestExamples: the table of chapter 19, row by row.
func TestExamples(t *testing.T) {
	for _, kind := range []int{0, 5} {
		v, err := New(kind)
		wantNoValue(t, "New", v, err, api.ErrArg)
	}
	v, err := Read(0, nil)
	wantNoValue(t, "Read(0, none)", v, err, api.ErrArg)

	v = fresh(t, Counter)
	wantBytes(t, v, "01 00")
	for _, x := range [][2]int{{0, 5}, {2, -3}, {0, 1}, {1, 0}} {
		wantErr(t, "Add", v.Add(x[0], x[1]), api.OK)
	}
	wantBytes(t, v, "01 05 06 00 00 00 00 00 00 00 00 03 00 00")
	if v.Sum() != 3 {
		t.Errorf("Sum: %d", v.Sum())
	}
	wantErr(t, "Add(8, 1)", v.Add(8, 1), api.ErrActor)
	wantErr(t, "Add(0, 16777215)", v.Add(0, 16777215), api.ErrCount)
	wantErr(t, "Add(0, -1 << 63)", v.Add(0, -1<<63), api.ErrCount)
	wantErr(t, "Put of a counter", v.Put(0, []byte("a")), api.ErrType)

	v = fresh(t, Set)
	wantErr(t, "Put(1, b)", v.Put(1, []byte("b")), api.OK)
	wantErr(t, "Put(0, a)", v.Put(0, []byte("a")), api.OK)
	wantBytes(t, v, "02 03 01 00 01 00 02 01 61 01 01 00 01 62 02 01 00")
	wantErr(t, "Take(b)", v.Take([]byte("b")), api.OK)
	wantErr(t, "Put(0, a)", v.Put(0, []byte("a")), api.OK)
	wantBytes(t, v, "02 03 02 00 01 00 01 01 61 01 02 00")
	wantElements(t, v, "a")
}

// TestExamplesOfTwo: the rows of the table in which two values meet.
func TestExamplesOfTwo(t *testing.T) {
	const one = "02 01 01 00 01 01 61 01 01 00"
	v, w := of(t, one), of(t, one)
	wantErr(t, "Take(a)", v.Take([]byte("a")), api.OK)
	wantErr(t, "Put(1, a)", w.Put(1, []byte("a")), api.OK)
	wantErr(t, "Merge", v.Merge(w), api.OK)
	wantBytes(t, v, "02 03 01 00 01 00 01 01 61 02 01 00")
	v, w = of(t, one), of(t, one)
	wantErr(t, "Take(a)", v.Take([]byte("a")), api.OK)
	wantErr(t, "Merge", v.Merge(w), api.OK)
	wantElements(t, v)
	v = fresh(t, Set)
	wantErr(t, "Put of nothing", v.Put(0, nil), api.ErrArg)
	wantErr(t, "Put of nine bytes", v.Put(0, text(9)), api.ErrArg)
	wantErr(t, "Take of nine bytes", v.Take(text(9)), api.OK)

	v = fresh(t, Flag)
	wantErr(t, "Switch(3, true)", v.Switch(3, true), api.OK)
	wantBytes(t, v, "03 08 01 00 08 01 00")
	wantErr(t, "Switch(4, false)", v.Switch(4, false), api.OK)
	wantBytes(t, v, "03 08 01 00 00")
	if v.On() {
		t.Error("On behind a switching off")
	}
	v = fresh(t, Register)
	wantErr(t, "Write(2, x)", v.Write(2, []byte("x")), api.OK)
	wantBytes(t, v, "04 01 00 00 02 78")
	wantErr(t, "Write(0, yz)", v.Write(0, []byte("yz")), api.OK)
	wantBytes(t, v, "04 02 00 00 00 79 7A")
	wantBoth(t, "04 01 00 00 01 78", "04 01 00 00 02 78", "04 01 00 00 02 78")
}

// TestExamplesOfBytes: the rows of the table in which bytes are read.
func TestExamplesOfBytes(t *testing.T) {
	for _, x := range []struct {
		kind int
		text string
	}{
		{Counter, "01"}, {Counter, "01 01 00 00 00 00 00 00"}, {Counter, "01 00 00"}, {Register, "04 00 00 00 01"},
		{Set, "02 00 01 01 61 00"}, {Flag, "03 01 01 00 01 02 00"}, {Flag, "02 00 00"},
	} {
		v, err := Read(x.kind, raw(x.text))
		wantNoValue(t, x.text, v, err, api.ErrType)
	}
	for _, l := range [][]api.Write{nil, {{Dead: true}}} {
		v, err := Resolve(Counter, l)
		if err != api.OK || v.Sum() != 0 {
			t.Errorf("Resolve(Counter, %v): %v, %d", l, v, err)
		}
		wantBytes(t, v, "01 00")
	}
	v, err := Resolve(Counter, []api.Write{{Value: raw("02 00 00")}})
	wantNoValue(t, "Resolve of a set as a counter", v, err, api.ErrType)
}
