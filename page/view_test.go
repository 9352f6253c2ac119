package page

import (
	"bytes"
	"math"
	"slices"
	"testing"

	"rookery/api"
)

// TestP706Open: the view is of b itself, not of a copy.
func TestP706Open(t *testing.T) {
	for _, c := range samples() {
		b := built(t, c)
		v := opened(t, b)
		if c.kind != KindClocks && &v.Key()[0] != &b[textPlaces(fieldsOf(c))[0][0]] {
			t.Errorf("the key %q stands elsewhere", v.Key())
		}
		if got := told(t, v); !sameContent(got, c) {
			t.Errorf("the view tells %+v; want %+v", got, c)
		}
	}
	one, two := built(t, ofKey(wr(0, 1))), built(t, ofHint(1, wr(0, 2)))
	v, v2 := opened(t, one), opened(t, two)
	one[2], two[3] = 'a', 'b'
	if string(v.Key()) != "a" || string(v2.Key()) != "b" {
		t.Errorf("two views tell %q and %q", v.Key(), v2.Key())
	}
	wantWrong(t, nil, 0)
	wantWrong(t, make([]byte, 2048), 0)
}

// TestP706NotCopied: neither to open a page nor to look at its key and values takes memory for them.
func TestP706NotCopied(t *testing.T) {
	b := built(t, ofKey(row("k", 8)...))
	v := opened(t, b)
	if n := testing.AllocsPerRun(100, func() {
		v.Key()
		v.Value(7)
		v.Len()
	}); n != 0 {
		t.Errorf("a look at a key and a value takes memory %v times", n)
	}
	if n := testing.AllocsPerRun(100, func() { Check(b) }); n != 0 {
		t.Errorf("Check takes memory %v times", n)
	}
}

func TestP707Looking(t *testing.T) {
	for _, c := range samples() {
		v := opened(t, built(t, c))
		many := len(c.clocks) + len(c.writes)
		if v.Kind() != c.kind || v.Len() != many || v.Gen() != c.gen || v.Owner() != c.owner {
			t.Errorf("Kind %d, Len %d, Gen %d, Owner %d; want %d, %d, %d, %d", v.Kind(), v.Len(), v.Gen(), v.Owner(), c.kind, many, c.gen, c.owner)
		}
		if c.kind == KindClocks && len(v.Key()) != 0 {
			t.Errorf("the key of a page of clocks: %q", v.Key())
		}
		for i, w := range c.writes {
			got, err := v.Write(i)
			if !sameWrite(got, w) || err != api.OK || string(v.Key()) != w.Key {
				t.Errorf("Write(%d): %+v, %d, Key: %q; want %+v", i, got, err, v.Key(), w)
			}
			if x, err := v.Value(i); !bytes.Equal(x, w.Value) || err != api.OK {
				t.Errorf("Value(%d): %q, %d; want %q", i, x, err, w.Value)
			}
		}
		for i, x := range c.clocks {
			if got, err := v.Clock(i); !sameClock(got, x) || err != api.OK {
				t.Errorf("Clock(%d): %+v, %d; want %+v", i, got, err, x)
			}
		}
	}
}

// wantNone: the view has no write and no clock of this number.
func wantNone(t *testing.T, v *View, i int) {
	t.Helper()
	if x, err := v.Value(i); x != nil || err != api.ErrArg {
		t.Errorf("Value(%d): %q, %d; want nothing, ErrArg", i, x, err)
	}
	if w, err := v.Write(i); !sameWrite(w, api.Write{}) || w.Value != nil || w.Ctx != nil || err != api.ErrArg {
		t.Errorf("Write(%d): %+v, %d; want nothing, ErrArg", i, w, err)
	}
	wantNoClock(t, v, i)
}

func wantNoClock(t *testing.T, v *View, i int) {
	t.Helper()
	if x, err := v.Clock(i); x.Range != 0 || x.Set != nil || err != api.ErrArg {
		t.Errorf("Clock(%d): %+v, %d; want nothing, ErrArg", i, x, err)
	}
}

func TestP707NoSuch(t *testing.T) {
	for _, c := range samples() {
		v := opened(t, built(t, c))
		for _, i := range []int{-1, -2, math.MinInt, v.Len(), v.Len() + 1, 16, 255, 256, math.MaxInt} {
			wantNone(t, v, i)
		}
		for i := range v.Len() {
			if c.kind != KindClocks {
				wantNoClock(t, v, i)
				continue
			}
			if x, err := v.Value(i); x != nil || err != api.ErrArg {
				t.Errorf("Value(%d) of a page of clocks: %q, %d", i, x, err)
			}
			if w, err := v.Write(i); !sameWrite(w, api.Write{}) || err != api.ErrArg {
				t.Errorf("Write(%d) of a page of clocks: %+v, %d", i, w, err)
			}
		}
	}
}

// textPlaces: where in a page of these fields its key and its values stand: the key first.
func textPlaces(fields []field) [][2]int {
	var l [][2]int
	at := 0
	for _, f := range fields {
		if f.size == 0 {
			l = append(l, [2]int{at, at + len(f.text)})
		}
		at += len(f.bytes())
	}
	return l
}

// texts: the key and the values that a view tells.
func texts(t *testing.T, v *View) [][]byte {
	t.Helper()
	l := [][]byte{v.Key()}
	for i := range v.Len() {
		x, err := v.Value(i)
		if err != api.OK {
			t.Fatalf("Value(%d): %d", i, err)
		}
		l = append(l, x)
	}
	return l
}

// TestP708OwnBytes: both ways, now and later, in what was answered and in what will be.
func TestP708OwnBytes(t *testing.T) {
	for _, c := range samples() {
		if c.kind == KindClocks {
			continue
		}
		b := built(t, c)
		v := opened(t, b)
		before := texts(t, v)
		for k, place := range textPlaces(fieldsOf(c)) {
			if len(before[k]) != place[1]-place[0] {
				t.Fatalf("the text %d has %d bytes; want %d", k, len(before[k]), place[1]-place[0])
			}
			for i := range before[k] {
				before[k][i] = byte(i + 100)
				if b[place[0]+i] != byte(i+100) || texts(t, v)[k][i] != byte(i+100) {
					t.Errorf("what is written into the text %d stands not in the page", k)
				}
				b[place[0]+i] = byte(i + 200)
				if before[k][i] != byte(i+200) || texts(t, v)[k][i] != byte(i+200) {
					t.Errorf("what is written into the page stands not in the text %d", k)
				}
			}
		}
		wantAsPlain(t, b)
	}
}

// TestP708WritesFollow: a write tells the key and the value as the page has them when it is asked for.
func TestP708WritesFollow(t *testing.T) {
	b := built(t, ofKey(with("one", of("ab", wr(0, 1))), with("two", of("ab", wr(0, 2)))))
	v := opened(t, b)
	x, _ := v.Value(1)
	copy(x, "TWO")
	copy(v.Key(), "AB")
	if got := told(t, v); !sameContent(got, ofKey(with("one", of("AB", wr(0, 1))), with("TWO", of("AB", wr(0, 2))))) {
		t.Errorf("the view tells %+v", got)
	}
}

// TestP708Ends: what is appended changes no byte of the page, and none behind it.
func TestP708Ends(t *testing.T) {
	for _, c := range samples() {
		page := built(t, c)
		wide := append(append([]byte("ahead"), page...), "behind"...)
		b := wide[5:2053]
		before := slices.Clone(wide)
		v := opened(t, b)
		l := [][]byte{v.Key()}
		if c.kind != KindClocks {
			l = texts(t, v)
		}
		for k, x := range l {
			if cap(x) != len(x) {
				t.Errorf("the text %d of %d bytes has room for %d", k, len(x), cap(x))
			}
			_ = append(x, bytes.Repeat([]byte{0xEE}, 3000)...)
			_ = append(x, 0xEE)
		}
		if !bytes.Equal(wide, before) {
			t.Error("what was appended stands in the page")
		}
	}
}

// TestP708NewMemory: what Write and Clock answer is no part of the page, and no part of another answer.
func TestP708NewMemory(t *testing.T) {
	for _, c := range samples() {
		b := built(t, c)
		before := slices.Clone(b)
		v := opened(t, b)
		one, two := told(t, v), told(t, v)
		spoil(one)
		if !bytes.Equal(b, before) || !sameContent(two, c) || !sameContent(told(t, v), c) {
			t.Errorf("what is written into an answer is seen elsewhere: %+v", two)
		}
		clear(b)
		if !sameContent(two, c) {
			t.Errorf("what is written into the page is seen in an answer: %+v", two)
		}
	}
}
