package page

import (
	"bytes"
	"math/rand"
	"slices"
	"testing"

	"rookery/api"
)

// wantAsPlain: the bytes are looked at as the plain reader looks at them, and what is a page has no other form.
func wantAsPlain(t *testing.T, b []byte) {
	t.Helper()
	want, place := plainRead(b)
	kind, at, err := Check(b)
	if place >= 0 {
		if kind != 0 || at != place || err != api.ErrPage {
			t.Fatalf("Check(% x ..): %d, %d, %d; want 0, %d, ErrPage", bytes.TrimRight(b, "\x00"), kind, at, err, place)
		}
		return
	}
	if kind != want.kind || at != 0 || err != api.OK {
		t.Fatalf("Check(% x ..): %d, %d, %d; want %d, 0, 0", bytes.TrimRight(b, "\x00"), kind, at, err, want.kind)
	}
	wantTold(t, b, want)
}

// wantTold: the page tells this content, by every call, and the content is built to this page.
func wantTold(t *testing.T, b []byte, want content) {
	t.Helper()
	v := opened(t, b)
	if got := told(t, v); !sameContent(got, want) || v.Len() != len(want.clocks)+len(want.writes) {
		t.Fatalf("% x .. tells %+v, %d of them; want %+v", bytes.TrimRight(b, "\x00"), got, v.Len(), want)
	}
	for i, w := range want.writes {
		x, err := v.Value(i)
		if !bytes.Equal(x, w.Value) || err != api.OK || string(v.Key()) != w.Key {
			t.Fatalf("Value(%d): %q, %d, Key: %q; want %+v", i, x, err, v.Key(), w)
		}
	}
	if again, err := build(told(t, v)); !bytes.Equal(again, b) || err != api.OK {
		t.Fatalf("what % x .. tells, built: % x .., %d", bytes.TrimRight(b, "\x00"), bytes.TrimRight(again, "\x00"), err)
	}
}

func randomNumber(r *rand.Rand, most int) int {
	switch r.Intn(4) {
	case 0:
		return most
	case 1:
		return r.Intn(most + 1)
	}
	return r.Intn(min(most, 4) + 1)
}

func randomText(r *rand.Rand, least, most int) []byte {
	b := make([]byte, least+randomNumber(r, most-least))
	for i := range b {
		b[i] = byte(r.Intn(256))
	}
	return b
}

func randomSet(r *rand.Rand) []api.Span {
	var s []api.Span
	some := 1 + r.Intn(4)
	for node := range api.MaxNodes {
		if r.Intn(some) > 0 {
			continue
		}
		x := sp(node, 1+randomNumber(r, api.MaxCount-1))
		if r.Intn(2) == 0 {
			x = api.Span{Node: node, Base: randomNumber(r, api.MaxCount-64), Bits: r.Uint64() >> r.Intn(63) &^ 1}
			x.Bits |= 2
		}
		s = append(s, x)
	}
	return s
}

func knows(s []api.Span, d api.Dot) bool {
	return slices.ContainsFunc(s, func(x api.Span) bool {
		return x.Node == d.Node && slices.Contains(counts(x, d.Count), d.Count)
	})
}

func randomWrite(r *rand.Rand, key string) api.Write {
	w := api.Write{Dot: dot(r.Intn(api.MaxNodes), 1+randomNumber(r, api.MaxCount-1)), Key: key, Dead: r.Intn(3) == 0}
	if !w.Dead {
		w.Value = randomText(r, 0, api.MaxValue)
	}
	if w.Ctx = randomSet(r); knows(w.Ctx, w.Dot) {
		w.Ctx = slices.DeleteFunc(w.Ctx, func(x api.Span) bool { return x.Node == w.Dot.Node })
	}
	return w
}

func randomContent(r *rand.Rand) content {
	key := string(randomText(r, 1, api.MaxKey))
	switch r.Intn(3) {
	case 0:
		c := ofClocks(int(r.Uint64() >> 16 >> r.Intn(48)))
		some := 1 + r.Intn(5)
		for at := range api.MaxRanges {
			if r.Intn(some) == 0 {
				c.clocks = append(c.clocks, cl(at, randomSet(r)...))
			}
		}
		return c
	case 1:
		var l []api.Write
		for range 1 + r.Intn(8) {
			l = append(l, randomWrite(r, key))
		}
		slices.SortFunc(l, func(a, b api.Write) int {
			return (a.Dot.Node-b.Dot.Node)<<21 + a.Dot.Count - b.Dot.Count
		})
		return ofKey(slices.CompactFunc(l, func(a, b api.Write) bool { return a.Dot == b.Dot })...)
	}
	return ofHint(r.Intn(api.MaxNodes), randomWrite(r, key))
}

// spoilt: the page with something changed, put in or taken out; most often it has a page's size all the same.
func spoilt(r *rand.Rand, b []byte) []byte {
	b = slices.Clone(b)
	end := len(bytes.TrimRight(b, "\x00"))
	for range 1 + r.Intn(2) {
		at := r.Intn(end + 3)
		switch c := []byte{0, 1, 2, 3, 7, 8, 9, 15, 16, 17, 64, 65, 128, 255, byte(r.Intn(256))}[r.Intn(15)]; r.Intn(5) {
		case 0:
			b = slices.Insert(b[:2047], at, c)
		case 1:
			b = append(slices.Delete(b, at, at+1), 0)
		case 2:
			b[at] ^= 1 << r.Intn(8)
		default:
			b[at] = c
		}
	}
	switch r.Intn(40) {
	case 0:
		return b[:r.Intn(2048)]
	case 1:
		return append(b, make([]byte, 1+r.Intn(9))...)
	}
	return b
}

// TestP709OneForm: there and back, of the samples.
func TestP709OneForm(t *testing.T) {
	for _, c := range samples() {
		b := built(t, c)
		wantRight(t, b, c.kind)
		wantTold(t, b, c)
	}
}

// TestAgainstModel: P701 to P709 of random contents and of what is left of their pages, against a plain writer and reader.
func TestAgainstModel(t *testing.T) {
	for seed := range int64(3000) {
		r := rand.New(rand.NewSource(seed))
		c := randomContent(r)
		b, err := build(c)
		if plain := full(join(fieldsOf(c))); !bytes.Equal(b, plain) || err != api.OK {
			t.Fatalf("seed %d: the page of %+v: % x, %d; want % x", seed, c, b, err, plain)
		}
		wantAsPlain(t, b)
		wantTold(t, b, c)
		for range 20 {
			wantAsPlain(t, spoilt(r, b))
		}
	}
}

// TestModelFields: random numbers in the place of a page's own, which reach each rule more often than random bytes do.
func TestModelFields(t *testing.T) {
	for seed := range int64(3000) {
		r := rand.New(rand.NewSource(seed))
		fields := fieldsOf(randomContent(r))
		for range 20 {
			changed := slices.Clone(fields)
			for range 1 + r.Intn(2) {
				changed[r.Intn(len(fields))].number = []uint64{0, 1, 2, 3, 7, 8, 9, 15, 16, 17, 64, 65, 1<<20 - 1, 1 << 20, 1<<20 + 1, 1 << 63, r.Uint64()}[r.Intn(17)]
			}
			wantAsPlain(t, full(join(changed)))
		}
	}
}

// TestModelShort: all pages that begin with a few numbers and go on with zeros.
func TestModelShort(t *testing.T) {
	few := []byte{0, 1, 2, 9}
	b := make([]byte, 2048)
	var play func(at, end int)
	play = func(at, end int) {
		wantAsPlain(t, b)
		if at == end {
			return
		}
		for _, c := range few {
			b[at] = c
			play(at+1, end)
		}
		b[at] = 0
	}
	for _, head := range []string{"\x01\x00\x00\x00\x00\x00\x00", "\x02\x01k", "\x03\x00\x01k", "\x02\x01k\x02\x00\x01\x00\x00\x00\x01\x00"} {
		clear(b)
		copy(b, head)
		play(len(head), len(head)+7)
	}
}

// TestModelRandomBytes: pages of nothing but random bytes, of few different ones.
func TestModelRandomBytes(t *testing.T) {
	for seed := range int64(3000) {
		r := rand.New(rand.NewSource(seed))
		b := make([]byte, 2048)
		most := 2 + r.Intn(12)
		for i := range r.Intn(2049) {
			b[i] = byte(r.Intn(most))
		}
		b[0] = byte(r.Intn(5))
		wantAsPlain(t, b)
	}
}
