package types

import (
	"strings"
	"testing"

	"rookery/api"
)

var wrongActors = []int{-1, 8, 256, 1 << 62, -1 << 63}

// TestP1910Types: the type counts ahead of all else.
func TestP1910Types(t *testing.T) {
	for _, kind := range kinds {
		v := fresh(t, kind)
		for _, actor := range append([]int{0, 7}, wrongActors...) {
			if kind != Counter {
				wantRefused(t, "Add", v, func() api.Errno { return v.Add(actor, 1<<40) }, api.ErrType)
				wantRefused(t, "Add", v, func() api.Errno { return v.Add(actor, 1) }, api.ErrType)
			}
			if kind != Set {
				wantRefused(t, "Put", v, func() api.Errno { return v.Put(actor, nil) }, api.ErrType)
				wantRefused(t, "Put", v, func() api.Errno { return v.Put(actor, []byte("a")) }, api.ErrType)
				wantRefused(t, "Take", v, func() api.Errno { return v.Take([]byte("a")) }, api.ErrType)
			}
			if kind != Flag {
				wantRefused(t, "Switch on", v, func() api.Errno { return v.Switch(actor, true) }, api.ErrType)
				wantRefused(t, "Switch off", v, func() api.Errno { return v.Switch(actor, false) }, api.ErrType)
			}
			if kind != Register {
				wantRefused(t, "Write", v, func() api.Errno { return v.Write(actor, text(60)) }, api.ErrType)
				wantRefused(t, "Write", v, func() api.Errno { return v.Write(actor, nil) }, api.ErrType)
			}
		}
	}
}

// TestP1910Actors: an actor that is none is refused ahead of what else is wrong.
func TestP1910Actors(t *testing.T) {
	full := of(t, "04 FF FF FF 00 61")
	on := of(t, "03 01 FF FF 01 01 00")
	for _, actor := range wrongActors {
		v := fresh(t, Counter)
		wantRefused(t, "Add", v, func() api.Errno { return v.Add(actor, 1) }, api.ErrActor)
		wantRefused(t, "Add", v, func() api.Errno { return v.Add(actor, 0) }, api.ErrActor)
		wantRefused(t, "Add of too much", v, func() api.Errno { return v.Add(actor, 1<<24) }, api.ErrActor)
		s := fresh(t, Set)
		wantRefused(t, "Put", s, func() api.Errno { return s.Put(actor, []byte("a")) }, api.ErrActor)
		wantRefused(t, "Put of nothing", s, func() api.Errno { return s.Put(actor, nil) }, api.ErrActor)
		wantRefused(t, "Switch on", on, func() api.Errno { return on.Switch(actor, true) }, api.ErrActor)
		wantRefused(t, "Switch off", on, func() api.Errno { return on.Switch(actor, false) }, api.ErrActor)
		wantRefused(t, "Write", full, func() api.Errno { return full.Write(actor, nil) }, api.ErrActor)
		wantRefused(t, "Write of 60 bytes", full, func() api.Errno { return full.Write(actor, text(60)) }, api.ErrActor)
	}
}

// TestP1910Add: each bound, and just past it; up and down have nothing to do with one another.
func TestP1910Add(t *testing.T) {
	const most = 16777215
	for _, by := range []int{most + 1, -most - 1, 1 << 62, 1<<63 - 1, -1 << 63, -1<<63 + 1, 1 << 32, -1 << 32} {
		for _, text := range []string{"01 00", "01 01 01 00 00 01 00 00", "01 01 FF FF FF FF FF FF"} {
			v := of(t, text)
			wantRefused(t, "Add of too much", v, func() api.Errno { return v.Add(0, by) }, api.ErrCount)
		}
	}
	v := fresh(t, Counter)
	wantErr(t, "Add", v.Add(3, most), api.OK)
	wantErr(t, "Add", v.Add(3, -most), api.OK)
	wantBytes(t, v, "01 08 FF FF FF FF FF FF")
	for _, by := range []int{1, -1, most, -most} {
		wantRefused(t, "Add past the bound", v, func() api.Errno { return v.Add(3, by) }, api.ErrCount)
		wantErr(t, "Add of another actor", v.Add(4, by/most), api.OK)
	}
	wantRefused(t, "Add of 0 at the bound", v, func() api.Errno { return v.Add(3, 0) }, api.OK)
	v = of(t, "01 01 FE FF FF FD FF FF")
	wantRefused(t, "Add past the bound", v, func() api.Errno { return v.Add(0, 2) }, api.ErrCount)
	wantRefused(t, "Add past the bound", v, func() api.Errno { return v.Add(0, -3) }, api.ErrCount)
	wantErr(t, "Add", v.Add(0, 1), api.OK)
	wantErr(t, "Add", v.Add(0, -2), api.OK)
	wantBytes(t, v, "01 01 FF FF FF FF FF FF")
}

// TestP1910Put: a new entry, or an old one with the new tag alone.
func TestP1910Put(t *testing.T) {
	v := fresh(t, Set)
	wantErr(t, "Put", v.Put(7, []byte("b")), api.OK)
	wantErr(t, "Put", v.Put(7, []byte("bb")), api.OK)
	wantErr(t, "Put", v.Put(7, []byte("a")), api.OK)
	wantBytes(t, v, "02 80 03 00 03 01 61 80 03 00 01 62 80 01 00 02 62 62 80 02 00")
	wantErr(t, "Put", v.Put(7, []byte("b")), api.OK)
	wantBytes(t, v, "02 80 04 00 03 01 61 80 03 00 01 62 80 04 00 02 62 62 80 02 00")
	v = of(t, "02 83 01 00 01 00 01 00 01 01 61 83 01 00 01 00 01 00")
	wantErr(t, "Put", v.Put(1, []byte("a")), api.OK) // three tags become one
	wantBytes(t, v, "02 83 01 00 02 00 01 00 01 01 61 02 02 00")
	v = of(t, "02 01 FF 00 01 01 61 01 01 00")
	wantErr(t, "Put", v.Put(0, []byte("b")), api.OK)
	wantBytes(t, v, "02 01 00 01 02 01 61 01 01 00 01 62 01 00 01")
}

// TestP1910PutErrors: in their order, each at its edge.
func TestP1910PutErrors(t *testing.T) {
	v := of(t, "02 05 FE FF 01 00 00")
	for n := range 12 {
		if n < 1 || n > 8 {
			wantRefused(t, "Put", v, func() api.Errno { return v.Put(2, text(n)) }, api.ErrArg)
		}
	}
	wantErr(t, "Put", v.Put(2, text(8)), api.OK)
	wantErr(t, "Put", v.Put(0, text(1)), api.OK) // the count is 65535 now
	wantRefused(t, "Put at the bound", v, func() api.Errno { return v.Put(0, text(1)) }, api.ErrCount)
	wantRefused(t, "Put at the bound, of nothing", v, func() api.Errno { return v.Put(0, nil) }, api.ErrArg)
	wantErr(t, "Put of another actor", v.Put(1, text(1)), api.OK)

	const head = "02 01 FF FF 05 "
	wide := head + elementOf('a', 8) + elementOf('b', 8) + elementOf('c', 8) + elementOf('d', 8) + elementOf('e', 7) // 64 bytes
	v = of(t, wide)
	wantRefused(t, "Put at the bound, too wide", v, func() api.Errno { return v.Put(0, text(1)) }, api.ErrCount)
	wantRefused(t, "Put, too wide", v, func() api.Errno { return v.Put(1, text(1)) }, api.ErrWide)
	wantRefused(t, "Put of what is there, by a new actor", v, func() api.Errno { return v.Put(1, []byte("eeeeeee")) }, api.ErrWide)
	v = of(t, strings.Replace(wide, "FF FF", "FE FF", 1))
	wantErr(t, "Put of what is there", v.Put(0, []byte("eeeeeee")), api.OK)
	wantBytes(t, v, strings.Replace(wide, "65 01 01 00", "65 01 FF FF", 1))
}

// elementOf: an entry's bytes: a letter so many times, with the tag (0, 1).
func elementOf(letter byte, n int) string {
	const digits = "0123456789ABCDEF"
	x := string([]byte{digits[letter>>4], digits[letter&15], ' '})
	return "0" + digits[n:n+1] + " " + strings.Repeat(x, n) + "01 01 00 "
}

// TestP1910PutWide: a set that is too wide takes what makes it narrow enough: an element of eight tags has one then.
func TestP1910PutWide(t *testing.T) {
	for _, x := range []struct {
		last int
		want api.Errno
	}{{3, api.OK}, {4, api.ErrWide}} { // 64 bytes then, and 65
		v := fresh(t, Set)
		for _, n := range []int{8, 7} {
			wantErr(t, "Put", v.Put(0, text(n)), api.OK)
		}
		wantErr(t, "Put", v.Put(0, []byte("e")), api.OK)
		for actor := 1; actor < 8; actor++ {
			w := fresh(t, Set)
			wantErr(t, "Put", w.Put(actor, []byte("e")), api.OK)
			if actor == 1 {
				wantErr(t, "Put", w.Put(actor, text(6)), api.OK)
				wantErr(t, "Put", w.Put(actor, text(x.last)), api.OK)
			}
			wantErr(t, "Merge", v.Merge(w), api.OK)
		}
		if n := len(v.body.form()); n != 75+x.last {
			t.Errorf("%d bytes", n)
		}
		wantRefused(t, "Put, too wide still", v, func() api.Errno { return v.Put(7, []byte("f")) }, api.ErrWide)
		if x.want != api.OK {
			wantRefused(t, "Put", v, func() api.Errno { return v.Put(7, []byte("e")) }, x.want)
			continue
		}
		wantErr(t, "Put", v.Put(7, []byte("e")), api.OK)
		wantElements(t, v, "e", "xxx", "xxxxxx", "xxxxxxx", "xxxxxxxx")
		if b, err := v.Bytes(); err != api.OK || len(b) != 64 {
			t.Errorf("%d bytes, %d", len(b), err)
		}
	}
}

// TestP1910Take: any bytes, there or not; the counts stay.
func TestP1910Take(t *testing.T) {
	const all = "02 03 02 00 01 00 03 01 61 01 01 00 01 62 03 02 00 01 00 02 62 62 02 01 00"
	v := of(t, all)
	for _, e := range []string{"", "c", "B", "bbb", "A", "aa", "123456789", strings.Repeat("a", 1000)} {
		wantRefused(t, "Take of what is not there", v, func() api.Errno { return v.Take([]byte(e)) }, api.OK)
	}
	wantErr(t, "Take", v.Take([]byte("b")), api.OK)
	wantBytes(t, v, "02 03 02 00 01 00 02 01 61 01 01 00 02 62 62 02 01 00")
	wantErr(t, "Take", v.Take([]byte("b")), api.OK)
	wantErr(t, "Take", v.Take([]byte("a")), api.OK)
	wantErr(t, "Take", v.Take([]byte("bb")), api.OK)
	wantBytes(t, v, "02 03 02 00 01 00 00")
}

// TestP1910Switch: on leaves its tag alone, off none; the counts never fall.
func TestP1910Switch(t *testing.T) {
	v := of(t, "03 03 02 00 01 00 03 02 00 01 00")
	wantErr(t, "Switch on", v.Switch(1, true), api.OK)
	wantBytes(t, v, "03 03 02 00 02 00 02 02 00")
	wantErr(t, "Switch on", v.Switch(7, true), api.OK)
	wantBytes(t, v, "03 83 02 00 02 00 01 00 80 01 00")
	wantErr(t, "Switch off", v.Switch(5, false), api.OK)
	wantBytes(t, v, "03 83 02 00 02 00 01 00 00")
	wantErr(t, "Switch off", v.Switch(5, false), api.OK)
	wantBytes(t, v, "03 83 02 00 02 00 01 00 00")
	v = of(t, "03 01 FE FF 00")
	wantErr(t, "Switch on", v.Switch(0, true), api.OK)
	wantRefused(t, "Switch on at the bound", v, func() api.Errno { return v.Switch(0, true) }, api.ErrCount)
	wantBytes(t, v, "03 01 FF FF 01 FF FF")
	wantErr(t, "Switch off at the bound", v.Switch(0, false), api.OK)
	wantBytes(t, v, "03 01 FF FF 00")
	wantErr(t, "Switch on of another actor", v.Switch(1, true), api.OK)
}

// TestP1910Write: the stamp goes up by one, whoever writes what.
func TestP1910Write(t *testing.T) {
	v := of(t, "04 FF 00 00 05 61")
	wantErr(t, "Write", v.Write(0, nil), api.OK)
	wantBytes(t, v, "04 00 01 00 00")
	wantErr(t, "Write of 59 bytes", v.Write(1, text(59)), api.OK)
	wantRefused(t, "Write of 60 bytes", v, func() api.Errno { return v.Write(1, text(60)) }, api.ErrLong)
	v = of(t, "04 FE FF FF 05 61")
	wantErr(t, "Write", v.Write(6, []byte("b")), api.OK)
	wantBytes(t, v, "04 FF FF FF 06 62")
	wantRefused(t, "Write at the bound", v, func() api.Errno { return v.Write(6, nil) }, api.ErrCount)
	wantRefused(t, "Write of 60 bytes at the bound", v, func() api.Errno { return v.Write(6, text(60)) }, api.ErrLong)
}
