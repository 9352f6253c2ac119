package types

import (
	"bytes"
	"strings"
	"testing"

	"rookery/api"
)

// TestP1901Counter: up and down by themselves, each up to its bound, of each actor.
func TestP1901Counter(t *testing.T) {
	v := fresh(t, Counter)
	for actor := range 8 {
		wantErr(t, "Add", v.Add(actor, 16777215), api.OK)
	}
	if v.Sum() != 8*16777215 {
		t.Errorf("Sum: %d", v.Sum())
	}
	wantBytes(t, v, "01 FF "+strings.Repeat("FF FF FF 00 00 00 ", 8))
	for actor := range 8 {
		wantErr(t, "Add", v.Add(actor, -16777214), api.OK)
	}
	if v.Sum() != 8 {
		t.Errorf("Sum: %d", v.Sum())
	}
	wantBytes(t, v, "01 FF "+strings.Repeat("FF FF FF FE FF FF ", 8))
	w := fresh(t, Counter)
	wantErr(t, "Add", w.Add(7, -0x010203), api.OK)
	wantBytes(t, w, "01 80 00 00 00 03 02 01")
	if w.Sum() != -0x010203 {
		t.Errorf("Sum: %d", w.Sum())
	}
}

// TestP1902Set: an element with several tags, elements with one tag, and any bytes as elements.
func TestP1902Set(t *testing.T) {
	v, w := fresh(t, Set), fresh(t, Set)
	v.Put(0, []byte("a"))
	w.Put(7, []byte("a"))
	wantErr(t, "Merge", v.Merge(w), api.OK)
	wantBytes(t, v, "02 81 01 00 01 00 01 01 61 81 01 00 01 00")
	wantElements(t, v, "a")
	wantElements(t, of(t, "02 01 01 00 02 01 61 01 01 00 01 62 01 01 00"), "a", "b")
	v = fresh(t, Set)
	for _, e := range []string{"\x00\x00", "\xFF", "\x00", "\xFF\x00", "\x00\x01", "ab", "b", "a", "\x80", "\x7F"} {
		wantErr(t, "Put", v.Put(3, []byte(e)), api.OK)
	}
	wantElements(t, v, "\x00", "\x00\x00", "\x00\x01", "a", "ab", "b", "\x7F", "\x80", "\xFF", "\xFF\x00")
	for e := range 256 { // an entry may be any one
		v = fresh(t, Set)
		wantErr(t, "Put", v.Put(0, []byte{byte(e)}), api.OK)
		b, _ := v.Bytes()
		if o, err := Read(Set, b); err != api.OK || !bytes.Equal(o.Elements()[0], []byte{byte(e)}) {
			t.Errorf("the element %02X: %d", e, err)
		}
	}
}

// TestP1903Flag: on, as long as there is a tag.
func TestP1903Flag(t *testing.T) {
	for text, on := range map[string]bool{
		"03 00 00": false, "03 81 FF FF 01 00 00": false, "03 81 FF FF 01 00 80 01 00": true, "03 81 FF FF 01 00 81 03 00 01 00": true, "03 01 FF FF 01 FF FF": true,
	} {
		if v := of(t, text); v.On() != on {
			t.Errorf("%s is on: %v", text, v.On())
		}
	}
}

// TestP1904Register: any text up to its bound, an empty one too.
func TestP1904Register(t *testing.T) {
	v := fresh(t, Register)
	for i, text := range []string{"", "\x00", strings.Repeat("\xFF", 59), "ab"} {
		wantErr(t, "Write", v.Write(7, []byte(text)), api.OK)
		if string(v.Text()) != text || v.body.(register).stamp != i+1 {
			t.Errorf("behind a Write of %q: %q", text, v.Text())
		}
	}
	wantBytes(t, v, "04 04 00 00 07 61 62")
	if v = of(t, "04 01 00 00 03"); len(v.Text()) != 0 {
		t.Errorf("an empty text: %q", v.Text())
	}
}

// TestP1905Wide: a set of just 64 bytes has a form; one of more is refused, and stays good.
func TestP1905Wide(t *testing.T) {
	v := fresh(t, Set)
	for _, e := range []string{"aaaaaaaa", "bbbbbbbb", "cccccccc", "dddddddd"} {
		wantErr(t, "Put", v.Put(0, []byte(e)), api.OK) // 5 + 4 * 12 = 53 bytes
	}
	wantErr(t, "Put", v.Put(0, []byte("eeeeeee")), api.OK)
	if b, err := v.Bytes(); err != api.OK || len(b) != 64 {
		t.Errorf("64 bytes: %d, %d", len(b), err)
	}
	w := fresh(t, Set)
	w.Put(1, []byte("z"))
	wantErr(t, "Merge", v.Merge(w), api.OK)
	if b, err := v.Bytes(); err != api.ErrWide || b != nil {
		t.Errorf("more than 64 bytes: % X, %d", b, err)
	}
	wantElements(t, v, "aaaaaaaa", "bbbbbbbb", "cccccccc", "dddddddd", "eeeeeee", "z")
	wantErr(t, "Take", v.Take([]byte("eeeeeee")), api.OK)
	if b, err := v.Bytes(); err != api.OK || len(b) != 53+2+5 {
		t.Errorf("behind a Take: %d bytes, %d", len(b), err)
	}
}

// TestP1905Widest: eleven elements of each actor: there can't be more.
func TestP1905Widest(t *testing.T) {
	v := fresh(t, Set)
	var want []string
	for actor := range 8 {
		w := fresh(t, Set)
		for i := range 12 {
			element := []byte{byte(actor*16 + i)}
			err := w.Put(actor, element)
			if wantErr(t, "Put", err, []api.Errno{api.OK, api.ErrWide}[i/11]); err == api.OK {
				want = append(want, string(element))
			}
		}
		wantErr(t, "Merge", v.Merge(w), api.OK)
	}
	wantElements(t, v, want...)
	if b, err := v.Bytes(); err != api.ErrWide || b != nil {
		t.Errorf("88 elements: % X, %d", b, err)
	}
	was := v.body.form()
	wantErr(t, "Merge with itself", v.Merge(v), api.OK)
	if !bytes.Equal(v.body.form(), was) {
		t.Errorf("merged with itself: % X", v.body.form())
	}
	for i, e := range want {
		wantElements(t, v, want[i:]...)
		wantErr(t, "Take", v.Take([]byte(e)), api.OK)
	}
	wantBytes(t, v, "02 FF "+strings.Repeat("0B 00 ", 8)+"00")
}

// TestP1906New: of no other number than 1 to 4.
func TestP1906New(t *testing.T) {
	for _, kind := range []int{0, 5, -1, 6, 255, 257, 1 << 62, -1 << 63} {
		v, err := New(kind)
		wantNoValue(t, "New", v, err, api.ErrArg)
		v, err = Resolve(kind, []api.Write{{Value: text(65)}})
		wantNoValue(t, "Resolve", v, err, api.ErrArg)
		v, err = Read(kind, text(65))
		wantNoValue(t, "Read", v, err, api.ErrArg)
		v, err = Read(kind, []byte{byte(kind), 0})
		wantNoValue(t, "Read", v, err, api.ErrArg)
	}
	for kind, want := range map[int]string{Counter: "01 00", Set: "02 00 00", Flag: "03 00 00", Register: "04 00 00 00 00"} {
		v := fresh(t, kind)
		wantBytes(t, v, want)
		if v.Sum() != 0 || len(v.Elements()) != 0 || v.On() || len(v.Text()) != 0 {
			t.Errorf("New(%d): %d, %q, %v, %q", kind, v.Sum(), v.Elements(), v.On(), v.Text())
		}
	}
}

// TestP1911Looking: each value answers its own call alone.
func TestP1911Looking(t *testing.T) {
	for _, x := range []struct {
		bytes    string
		sum      int
		elements string
		on       bool
		text     string
	}{
		{"01 81 05 00 00 01 00 00 00 00 00 00 01 00", 4 - 256, "", false, ""},
		{"02 01 02 00 02 01 61 01 01 00 02 61 62 01 02 00", 0, "a ab", false, ""},
		{"03 01 01 00 01 01 00", 0, "", true, ""},
		{"04 01 00 00 01 61 62", 0, "", false, "ab"},
	} {
		v := of(t, x.bytes)
		if v.Sum() != x.sum || string(bytes.Join(v.Elements(), []byte(" "))) != x.elements || v.On() != x.on || string(v.Text()) != x.text {
			t.Errorf("%s: %d, %q, %v, %q", x.bytes, v.Sum(), v.Elements(), v.On(), v.Text())
		}
	}
}
