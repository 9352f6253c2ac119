package page

import (
	"bytes"
	"math/rand"
	"reflect"
	"slices"
	"testing"

	"rookery/api"
)

func room[T any](l []T, mark T) []T {
	out := append(make([]T, 0, len(l)+3), l...)
	for i := len(l); i < cap(out); i++ {
		out[:cap(out)][i] = mark
	}
	return out
}

// all: a list with its spare room.
func all[T any](l []T) []T { return l[:cap(l)] }

// roomy: the same content: all its lists have spare room, with something in it.
func roomy(c content) content {
	var l []api.Clock
	for _, x := range c.clocks {
		x.Set = room(x.Set, sp(7, 77))
		l = append(l, x)
	}
	c.clocks = room(l, cl(11, sp(6, 66)))
	var writes []api.Write
	for _, w := range c.writes {
		w.Value, w.Ctx = room(w.Value, 77), room(w.Ctx, sp(7, 77))
		writes = append(writes, w)
	}
	c.writes = room(writes, of("spare", wr(6, 66)))
	return c
}

// seen: all that is to be seen of a content, spare room and all, in memory of its own.
func seen(c content) content {
	c.clocks, c.writes = slices.Clone(all(c.clocks)), slices.Clone(all(c.writes))
	for i, x := range c.clocks {
		c.clocks[i].Set = slices.Clone(all(x.Set))
	}
	for i, w := range c.writes {
		c.writes[i].Value, c.writes[i].Ctx = slices.Clone(all(w.Value)), slices.Clone(all(w.Ctx))
	}
	return c
}

// spoil writes over all of a content's lists, spare room and all.
func spoil(c content) {
	for i, x := range all(c.clocks) {
		for j := range all(x.Set) {
			all(x.Set)[j] = sp(5, 55)
		}
		all(c.clocks)[i] = cl(12)
	}
	for i, w := range all(c.writes) {
		for j := range all(w.Value) {
			all(w.Value)[j] = 99
		}
		for j := range all(w.Ctx) {
			all(w.Ctx)[j] = sp(5, 55)
		}
		all(c.writes)[i] = wr(4, 44)
	}
}

// noContents: contents that have no page: what is refused is not changed either.
func noContents() []content {
	return []content{
		ofClocks(-1, cl(1, sp(0, 1))), ofClocks(1, cl(1, eight()...), cl(1, sp(0, 1))), ofClocks(1, cl(1, sp(1, 1), sp(0, 1))), ofKey(row("k", 9)...), ofKey(wr(0, 2, sp(0, 1)), wr(0, 1)), ofKey(wr(0, 2, sp(0, 2))), ofKey(row("", 2)...),
		ofHint(8, wr(0, 1, sp(1, 1))), ofHint(3, of("", wr(0, 1))), ofHint(3, wr(0, 1, sp(1, 1), sp(0, 1))),
	}
}

func TestP710NothingIsChanged(t *testing.T) {
	for _, given := range append(samples(), noContents()...) {
		c := roomy(given)
		before := seen(c)
		build(c)
		if !reflect.DeepEqual(before, seen(c)) {
			t.Errorf("Build changed %+v to %+v", before, seen(c))
		}
	}
}

// TestP710NothingIsKept: a page and what it was built of have nothing in common, nor have two pages.
func TestP710NothingIsKept(t *testing.T) {
	for _, given := range samples() {
		c := roomy(given)
		b, other := built(t, c), built(t, c)
		before := seen(c)
		for i := range all(b) {
			all(b)[i] = 0xEE
		}
		if !reflect.DeepEqual(before, seen(c)) || !bytes.Equal(other, full(join(fieldsOf(given)))) {
			t.Error("what is written into a page is seen elsewhere")
		}
		spoil(c)
		if !bytes.Equal(other, full(join(fieldsOf(given)))) {
			t.Error("what is written into a list is seen in its page")
		}
	}
}

// TestP710Check: it changes nothing, around the bytes neither, and hangs on nothing around them.
func TestP710Check(t *testing.T) {
	for seed := range int64(300) {
		r := rand.New(rand.NewSource(seed))
		b := spoilt(r, built(t, randomContent(r)))
		wide := append(append([]byte("\x01\x02\x03"), b...), "\x01\x00\xff"...)
		before := slices.Clone(wide)
		kind, at, err := Check(slices.Clip(b))
		kind2, at2, err2 := Check(wide[3 : 3+len(b)])
		if kind != kind2 || at != at2 || err != err2 || !bytes.Equal(wide, before) {
			t.Errorf("Check: %d, %d, %d alone; %d, %d, %d among others", kind, at, err, kind2, at2, err2)
		}
	}
}

// TestP710NoCallChangesAPage: of all that there are.
func TestP710NoCallChangesAPage(t *testing.T) {
	for _, c := range samples() {
		b := built(t, c)
		before := slices.Clone(b)
		v := opened(t, b)
		answers(t, v)
		if !bytes.Equal(b, before) {
			t.Error("a look has changed the page")
		}
	}
}

// answers: all that a view answers, whatever its page has become; nothing is longer than the page.
func answers(t *testing.T, v *View) []any {
	t.Helper()
	key := v.Key()
	l := []any{v.Kind(), v.Len(), v.Gen(), v.Owner(), slices.Clone(key)}
	if len(key) > 2048 {
		t.Fatalf("a key of %d bytes", len(key))
	}
	for i := -1; i < 18; i++ {
		x, err := v.Value(i)
		if len(x) > 2048 {
			t.Fatalf("a value of %d bytes", len(x))
		}
		w, err2 := v.Write(i)
		c, err3 := v.Clock(i)
		l = append(l, slices.Clone(x), err, w, err2, c, err3)
	}
	return l
}

// TestP710SpoiltLater: whatever is written into the page of a view, its calls end, and look at the page alone: around it there is nothing, or something, and the answers are the same.
func TestP710SpoiltLater(t *testing.T) {
	for _, c := range samples() {
		alone := slices.Clip(built(t, c))
		wide := append(append(bytes.Repeat([]byte{0xEE}, 64), alone...), bytes.Repeat([]byte{0xEE}, 4096)...)
		among := wide[64:2112]
		v, v2 := opened(t, alone), opened(t, among)
		spoilAndLook := func(at int, n byte) {
			was := alone[at]
			alone[at], among[at] = n, n
			if one, two := answers(t, v), answers(t, v2); !reflect.DeepEqual(one, two) {
				t.Fatalf("byte %d as %d: %v; %v", at, n, one, two)
			}
			alone[at], among[at] = was, was
		}
		end := len(join(fieldsOf(c)))
		for at := range min(end+3, 260) {
			for _, n := range []byte{0, 1, 2, 3, 8, 17, 64, 65, 128, 255} {
				spoilAndLook(at, n)
			}
		}
		if got := told(t, v); !sameContent(got, c) {
			t.Errorf("mended, the page tells %+v", got)
		}
	}
}

// TestP710AnythingLater: pages of one kind that become anything at all.
func TestP710AnythingLater(t *testing.T) {
	for seed := range int64(2000) {
		r := rand.New(rand.NewSource(seed))
		b := slices.Clip(built(t, randomContent(r)))
		v := opened(t, b)
		from, most := r.Intn(2048), 1+r.Intn(256)
		if r.Intn(2) == 0 {
			from = r.Intn(12)
		}
		for i := from; i < len(b); i++ {
			b[i] = byte(r.Intn(most))
		}
		answers(t, v)
		for i := range b {
			b[i] = 255
		}
		b[0] = byte(r.Intn(4))
		answers(t, v)
	}
}
