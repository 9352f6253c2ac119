package sibs

import (
	"reflect"
	"slices"
	"testing"

	"rookery/api"
)

// given: what a call is handed: all its lists have spare room, with something in it.
type given struct {
	sets  [][]api.Write
	bases [][]api.Span
}

func room[T any](l []T, mark T) []T {
	out := append(make([]T, 0, len(l)+3), l...)
	for i := len(l); i < cap(out); i++ {
		out[:cap(out)][i] = mark
	}
	return out
}

func roomy(w api.Write) api.Write {
	w.Value, w.Ctx = room(w.Value, 77), room(w.Ctx, sp(7, 77))
	return w
}

func newGiven(in [][]api.Write, b [][]api.Span) given {
	g := given{room[[]api.Write](nil, nil), room[[]api.Span](nil, nil)}
	for _, set := range in {
		var l []api.Write
		for _, w := range set {
			l = append(l, roomy(w))
		}
		g.sets = append(g.sets, room(l, roomy(wr(6, 66, sp(6, 6)))))
	}
	for _, s := range b {
		g.bases = append(g.bases, room(s, sp(7, 77)))
	}
	return g
}

// whole: a list with its spare room.
func whole[T any](l []T) []T { return l[:cap(l)] }

// seen: all that is to be seen of what was handed in, spare room and all, in memory of its own.
func (g given) seen() given {
	var out given
	for _, set := range whole(g.sets) {
		var l []api.Write
		for _, w := range whole(set) {
			w.Value, w.Ctx = slices.Clone(whole(w.Value)), slices.Clone(whole(w.Ctx))
			l = append(l, w)
		}
		out.sets = append(out.sets, l)
	}
	for _, s := range whole(g.bases) {
		out.bases = append(out.bases, slices.Clone(whole(s)))
	}
	return out
}

// spoil writes over all of a list of writes, spare room and all.
func spoil(l []api.Write) {
	for i, w := range whole(l) {
		for j := range whole(w.Value) {
			whole(w.Value)[j] = 99
		}
		for j := range whole(w.Ctx) {
			whole(w.Ctx)[j] = sp(5, 55)
		}
		whole(l)[i] = wr(4, 44)
	}
}

func spoilSpans(s []api.Span) {
	for i := range whole(s) {
		whole(s)[i] = sp(3, 33)
	}
}

func (g given) spoil() {
	for _, set := range whole(g.sets) {
		spoil(set)
	}
	for _, s := range whole(g.bases) {
		spoilSpans(s)
	}
	clear(whole(g.sets))
	clear(whole(g.bases))
}

// calls: each listed call that answers lists, in each of its ways; the sets' last write is the one that is merged.
func calls() map[string]func(g given) ([]api.Write, []api.Span) {
	merge := func(w api.Write, limit int) func(g given) ([]api.Write, []api.Span) {
		return func(g given) ([]api.Write, []api.Span) {
			l, _ := Merge(g.sets[0], w, limit)
			return l, nil
		}
	}
	token := func(gap int) func(g given) ([]api.Write, []api.Span) {
		return func(g given) ([]api.Write, []api.Span) {
			s, l := Token(g.sets, g.bases, gap)
			return l, s
		}
	}
	return map[string]func(g given) ([]api.Write, []api.Span){
		"Merge, its dot is there": merge(wr(1, 1), 9), "Merge, one more": merge(wr(3, 3, sp(4, 1)), 9), "Merge, first": merge(wr(0, 1), 9),
		"Merge, it covers all": merge(wr(3, 3, sp(1, 9), sp(2, 9)), 9), "Merge, it covers the last": merge(wr(3, 3, sp(2, 9)), 9), "Merge, it covers the first": merge(wr(3, 3, sp(1, 1)), 9),
		"Merge, it is covered": merge(wr(0, 9), 9), "Merge, too many": merge(wr(3, 3), 2), "Merge, another key": merge(of("l", wr(3, 3)), 9),
		"Merge of a given write": func(g given) ([]api.Write, []api.Span) {
			l, _ := Merge(g.sets[0], g.sets[1][0], 9)
			return l, nil
		},
		"Merge with nothing": func(g given) ([]api.Write, []api.Span) {
			l, _ := Merge(g.sets[0][:0], g.sets[1][0], 9)
			return l, nil
		},
		"Gather":     func(g given) ([]api.Write, []api.Span) { return Gather(g.sets...), nil },
		"Gather one": func(g given) ([]api.Write, []api.Span) { return Gather(g.sets[0]), nil },
		"Gather one, and nothing": func(g given) ([]api.Write, []api.Span) {
			return Gather(g.sets[0][:0], g.sets[1]), nil
		},
		"Gather nothing": func(g given) ([]api.Write, []api.Span) { return Gather(g.sets[0][:0], g.sets[1][:0]), nil },
		"Token":          token(4), "Token of a wide gap": token(64), "Token of no gap": token(0),
		"Token of bases alone": func(g given) ([]api.Write, []api.Span) {
			s, l := Token(nil, g.bases[:1], 4)
			return l, s
		},
		"Token of one context alone": func(g given) ([]api.Write, []api.Span) {
			s, l := Token([][]api.Write{g.sets[1][:1]}, g.bases[:0], 4)
			return l, s
		},
		"Valid": func(g given) ([]api.Write, []api.Span) {
			Valid(g.sets[0], 4)
			Valid(g.sets[1], 64)
			return nil, nil
		},
		"Covers, Same": func(g given) ([]api.Write, []api.Span) {
			Covers(g.sets[0][0], g.sets[0][1])
			Same(g.sets[0][0], g.sets[0][1])
			return nil, nil
		},
	}
}

func exampleGiven() given {
	in := sets(list(wr(1, 1, sp(0, 1)), wr(2, 2, sp(0, 9))), list(wr(3, 3, sp(3, 2)), wr(0, 3), gone(wr(0, 60)), wr(1, 1)), list(of("l", wr(5, 1)), wr(4, 1, sp(1, 1))))
	return newGiven(in, bases(spans(sp(0, 4)), spans(sp(2, 1, 3)), spans(sp(3, 0))))
}

func clones(l []api.Write, s []api.Span) given {
	g := given{bases: [][]api.Span{slices.Clone(s)}, sets: [][]api.Write{nil}}
	for _, w := range l {
		w.Value, w.Ctx = slices.Clone(w.Value), slices.Clone(w.Ctx)
		g.sets[0] = append(g.sets[0], w)
	}
	return g
}

func TestP507NothingIsChanged(t *testing.T) {
	for name, call := range calls() {
		g := exampleGiven()
		was := g.seen()
		l, s := call(g)
		if !reflect.DeepEqual(g.seen(), was) {
			t.Errorf("%s: what was handed in is changed: %v; it was %v", name, g.seen(), was)
		}
		spoil(l)
		spoilSpans(s)
		if !reflect.DeepEqual(g.seen(), was) {
			t.Errorf("%s: the answer shares memory with what was handed in", name)
		}
	}
}

func TestP507NothingIsKept(t *testing.T) {
	for name, call := range calls() {
		g := exampleGiven()
		l, s := call(g)
		was := clones(l, s)
		g.spoil()
		if !reflect.DeepEqual(clones(l, s), was) {
			t.Errorf("%s: the answer goes with what was handed in: %v, %v; it was %v", name, l, s, was)
		}
		again, more := call(exampleGiven())
		if !reflect.DeepEqual(clones(again, more), was) {
			t.Errorf("%s: asked again: %v, %v; want %v", name, again, more, was)
		}
	}
}

// TestP507NoTwoShare: writes that are handed in with one memory for all have each their own in the answer.
func TestP507NoTwoShare(t *testing.T) {
	value, ctx := room([]byte("same"), 1), room(spans(sp(5, 1)), sp(7, 77))
	shared := func(node, count int) api.Write {
		return api.Write{Dot: dot(node, count), Key: "k", Value: value, Ctx: ctx}
	}
	set := list(shared(0, 90), shared(1, 90), shared(2, 90))
	merged, _ := Merge(set, shared(3, 90), 9)
	there, _ := Merge(set, shared(2, 90), 9)
	_, out := Token(sets(set, set), nil, 4)
	for name, l := range map[string][]api.Write{"Merge": merged, "Merge, its dot is there": there, "Gather": Gather(set, set), "Token": out} {
		if len(l) < 3 {
			t.Fatalf("%s: %v", name, l)
		}
		for i, w := range l {
			for j := range whole(w.Value) {
				whole(w.Value)[j] = byte(i)
			}
			for j := range whole(w.Ctx) {
				whole(w.Ctx)[j] = sp(i, 1)
			}
		}
		for i, w := range l {
			if slices.ContainsFunc(w.Value, func(b byte) bool { return b != byte(i) }) || !slices.Equal(w.Ctx, spans(sp(i, 1))) {
				t.Errorf("%s: write %d of the answer shares memory with another: %v", name, i, w)
			}
		}
	}
}

// TestP507TokenAndContextApart: a token that is just one write's context, or one list of bases, is no part of it.
func TestP507TokenAndContextApart(t *testing.T) {
	ctx := spans(sp(0, 1))
	token, _ := Token(sets(list(wr(0, 1, ctx...))), nil, 4)
	other, _ := Token(nil, bases(ctx), 4)
	token[0].Base, other[0].Base = 9, 8
	if ctx[0].Base != 1 || token[0].Base != 9 {
		t.Errorf("context %v, tokens %v, %v", ctx, token, other)
	}
}
