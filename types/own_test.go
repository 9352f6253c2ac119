package types

import (
	"bytes"
	"math/rand"
	"slices"
	"sync"
	"testing"

	"rookery/api"
)

// room: the same bytes, with something in their spare room.
func room(b []byte) []byte {
	out := append(make([]byte, 0, len(b)+5), b...)
	copy(out[len(b):cap(out)], "spare")
	return out
}

// whole: a list with its spare room.
func whole[T any](l []T) []T { return l[:cap(l)] }

func spoil(b []byte) {
	for i := range whole(b) {
		whole(b)[i] ^= 0xFF
	}
}

// wantKept: the call leaves what it is handed as it is; and the value, once it is spoilt.
func wantKept(t *testing.T, what string, given []byte, call func(b []byte) *Value) {
	t.Helper()
	b := room(given)
	was := slices.Clone(whole(b))
	v := call(b)
	if !bytes.Equal(whole(b), was) {
		t.Errorf("%s changes % X to % X", what, was, whole(b))
	}
	if v == nil {
		return
	}
	form := v.body.form()
	if spoil(b); !bytes.Equal(v.body.form(), form) {
		t.Errorf("%s: the value goes with what was handed in: % X; it was % X", what, v.body.form(), form)
	}
	copy(whole(b), was)
	v.Add(0, 1)
	v.Put(0, []byte("zz"))
	v.Take([]byte("a"))
	v.Switch(0, true)
	v.Write(0, []byte("zz"))
	if !bytes.Equal(whole(b), was) {
		t.Errorf("%s: what was handed in goes with the value", what)
	}
}

// TestP1914Bytes: what is handed in is neither changed nor kept.
func TestP1914Bytes(t *testing.T) {
	for seed := range int64(400) {
		kind := kinds[seed%4]
		form := anyValue(rand.New(rand.NewSource(seed)), kind).form()
		for _, b := range [][]byte{form, append(form, 0), form[:len(form)-1]} { // right bytes, and wrong ones
			wantKept(t, "Read", b, func(b []byte) *Value {
				v, _ := Read(kind, b)
				return v
			})
			wantKept(t, "Resolve", b, func(b []byte) *Value {
				v, _ := Resolve(kind, []api.Write{{Value: b}})
				return v
			})
		}
	}
	for n := range 12 {
		v, g := fresh(t, Set), fresh(t, Register)
		v.Put(1, text(3))
		wantKept(t, "Put", text(n), func(b []byte) *Value {
			v.Put(0, b)
			return v
		})
		wantKept(t, "Take", text(n), func(b []byte) *Value {
			v.Take(b)
			return v
		})
		wantKept(t, "Write", text(n*6), func(b []byte) *Value {
			g.Write(0, b)
			return g
		})
	}
}

// TestP1914Siblings: the writes of a Resolve stay as they are, and their list.
func TestP1914Siblings(t *testing.T) {
	l := make([]api.Write, 2, 4)
	l[0] = api.Write{Key: "k", Value: raw("01 01 05 00 00 00 00 00"), Ctx: []api.Span{{Node: 1, Base: 2}}}
	l[1] = api.Write{Dead: true, Value: raw("01 00")}
	whole(l)[2] = api.Write{Key: "spare", Value: raw("01 01 09 00 00 00 00 00")}
	v, err := Resolve(Counter, l)
	wantErr(t, "Resolve", err, api.OK)
	if v.Sum() != 5 {
		t.Errorf("Sum: %d", v.Sum())
	}
	if x := whole(l); x[0].Key != "k" || x[0].Ctx[0].Base != 2 || !x[1].Dead || x[2].Key != "spare" || x[3].Value != nil || !bytes.Equal(x[0].Value, raw("01 01 05 00 00 00 00 00")) {
		t.Errorf("the siblings are changed: %v", x)
	}
}

// TestP1914Answers: what is answered is new memory, each list of it.
func TestP1914Answers(t *testing.T) {
	for seed := range int64(400) {
		kind := kinds[seed%4]
		v := readPair(t, anyValue(rand.New(rand.NewSource(seed)), kind)).v
		form := v.body.form()
		first, _ := v.Bytes()
		second, _ := v.Bytes()
		spoil(first)
		wantSpoiltNothing(t, "Bytes", v, form, second, form)
		text, again := v.Text(), v.Text()
		was := slices.Clone(again)
		spoil(text)
		wantSpoiltNothing(t, "Text", v, form, again, was)
		for i := range v.Elements() {
			l, other := v.Elements(), v.Elements()
			joined := bytes.Join(other, nil)
			rest := bytes.Join(slices.Concat(l[:i], l[i+1:]), nil)
			spoil(l[i])
			wantSpoiltNothing(t, "Elements", v, form, bytes.Join(slices.Concat(l[:i], l[i+1:]), nil), rest)
			clear(whole(l))
			wantSpoiltNothing(t, "Elements", v, form, bytes.Join(other, nil), joined)
		}
	}
}

func wantSpoiltNothing(t *testing.T, what string, v *Value, form, got, want []byte) {
	t.Helper()
	if !bytes.Equal(v.body.form(), form) {
		t.Errorf("%s: the value goes with an answer: % X; it was % X", what, v.body.form(), form)
	}
	if !bytes.Equal(got, want) {
		t.Errorf("%s: an answer goes with another one: % X; it was % X", what, got, want)
	}
}

// doAll does to a value whatever its type takes.
func doAll(v *Value) {
	v.Add(3, 77)
	v.Put(3, []byte("zz"))
	for _, e := range v.Elements() {
		v.Take(e)
	}
	v.Put(4, []byte("y"))
	v.Switch(3, true)
	v.Write(3, []byte("zz"))
}

// TestP1914Values: two values have nothing in common, however the one came to what the other has.
func TestP1914Values(t *testing.T) {
	for seed := range int64(2000) {
		r := rand.New(rand.NewSource(seed))
		kind := kinds[seed%4]
		a, b := some(t, r, kind), some(t, r, kind)
		v := fresh(t, kind)
		wantErr(t, "Merge", v.Merge(a), api.OK)
		wantErr(t, "Merge", v.Merge(b), api.OK)
		formA, formB, formV := a.body.form(), b.body.form(), v.body.form()
		doAll(v)
		wantSpoiltNothing(t, "what was merged in", a, formA, b.body.form(), formB)
		v = both(t, both(t, fresh(t, kind), a), b)
		doAll(a)
		doAll(b)
		wantSpoiltNothing(t, "what it was merged into", v, formV, nil, nil)
		if t.Failed() {
			t.Fatalf("seed %d", seed)
		}
	}
}

// TestP1914EverySchedule: many at once answer as one alone.
func TestP1914EverySchedule(t *testing.T) {
	r := rand.New(rand.NewSource(1))
	a, b := some(t, r, Set), some(t, r, Set)
	want := both(t, a, b).body.form()
	got := make([][]byte, 16)
	var all sync.WaitGroup
	for i := range got {
		all.Go(func() {
			v, _ := New(Set)
			v.Merge(b)
			v.Merge(a)
			got[i] = v.body.form()
			doAll(v)
		})
	}
	all.Wait()
	for _, form := range got {
		if !bytes.Equal(form, want) {
			t.Errorf("% X; want % X", form, want)
		}
	}
}
