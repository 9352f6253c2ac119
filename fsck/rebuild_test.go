package fsck

import (
	"bytes"
	"fmt"
	"math"
	"sort"
	"strings"
	"testing"

	"rookery/api"
)

// plainImage: the bytes of a disk behind one commit of a state's pages, laid out by hand.
func plainImage(s api.State) []byte {
	b := make([]byte, size)
	var dots []api.Clock
	for _, k := range s.Clocks {
		if len(k.Set) > 0 {
			dots = append(dots, k)
		}
	}
	if s.Gen == 0 && len(dots) == 0 && len(s.Keys) == 0 && len(s.Hints) == 0 {
		return b
	}
	slots := map[int]int{0: 0}
	setSlot(b, 0, clockPage(s.Gen, dots...))
	for i, l := range s.Keys {
		slots[1+i] = len(slots)
		setSlot(b, slots[1+i], keyPage(l...))
	}
	for i, h := range s.Hints {
		slots[65+i] = len(slots)
		setSlot(b, slots[65+i], hintPage(h.Owner, h.Write))
	}
	setRoot(b, 1, rootOf(1, slots))
	return b
}

// wantImage: the state has just this image; Look has no finding there, and Dump is the state, with the clocks of all ranges that prefer the node: P2008, P2009.
func wantImage(t *testing.T, what string, s api.State, c api.Config, me int) {
	t.Helper()
	b := rebuilt(t, s, c, me)
	if !bytes.Equal(b, plainImage(s)) {
		t.Errorf("%s: Rebuild of %s: another image", what, showState(s))
	}
	wantFinds(t, what, b, c, me)
	all := s
	all.Clocks = nil
	for rng := range c.Ranges {
		if plainPrefers(c, rng, me) {
			k := cl(rng)
			for _, x := range s.Clocks {
				if x.Range == rng {
					k = x
				}
			}
			all.Clocks = append(all.Clocks, k)
		}
	}
	wantDump(t, what, b, c, me, all)
}

// sample: a state of node 2 of five.
func sample() api.State {
	return state(9, clocks(cl(1, sp(0, 2, 4), sp(2, 9)), cl(2, sp(0, 1))), hints(hint(1, of("b", wr(0, 5))), hint(1, of("g", wr(0, 5))), hint(1, of("g", wr(1, 1))), hint(3, of("b", wr(0, 5)))),
		list(of("a", wr(0, 4)), of("a", gone(wr(2, 1, sp(0, 3))))), list(wr(0, 1), wr(0, 2), wr(2, 9, sp(1, 5))), list(of("p", with("", wr(0, 1)))))
}

func TestP2008Images(t *testing.T) {
	wantImage(t, "a sample", sample(), five(), 2)
	wantImage(t, "the fifth row", fifth(), three(), 1)
	for _, x := range []struct {
		what string
		s    api.State
	}{
		{"nothing", api.State{}}, {"clocks without dots", state(0, clocks(cl(1), cl(2)), nil)}, {"empty lists", state(0, clocks(cl(1, []api.Span{}...)), hints())}, {"Gen alone", state(1, nil, nil)}, {"the greatest Gen", state(281474976710655, clocks(cl(2)), nil)},
		{"a clock alone", state(0, clocks(cl(1), cl(2, sp(3, 0, 2))), nil)}, {"a key", state(0, clocks(cl(1, sp(0, 1))), nil, list(wr(0, 1)))}, {"a hint alone", state(0, nil, hints(hint(1, of("g", wr(0, 1)))))}, {"the last of the clocks alone", state(3, clocks(cl(2, sp(0, 1))), nil)},
	} {
		wantImage(t, x.what, x.s, five(), 2)
	}
	zeros := rebuilt(t, state(0, clocks(cl(1)), nil), five(), 2)
	if !bytes.Equal(zeros, make([]byte, 413696)) {
		t.Error("a state without anything is no disk of zeros")
	}
}

// TestP2008Full: all pages, and all that a page has room for.
func TestP2008Full(t *testing.T) {
	c := widest()
	const me = 2
	var s api.State
	s.Gen = 7
	var wide, early []api.Span // early: of each node less than any write's count
	for node := range 8 {
		wide = append(wide, api.Span{Node: node, Base: 1 << 19, Bits: 1<<63 | 2})
		early = append(early, api.Span{Node: node, Base: 30, Bits: 1<<63 | 2})
	}
	for rng := range 16 {
		if plainPrefers(c, rng, me) {
			s.Clocks = append(s.Clocks, api.Clock{Range: rng, Set: wide})
		}
	}
	count := 0
	for i := 0; len(s.Keys) < 64 || len(s.Hints) < 32; i++ {
		key := fmt.Sprintf("key %08d", i)
		rng := plainRange(c, key)
		switch {
		case plainPrefers(c, rng, me) && len(s.Keys) < 64:
			var l []api.Write
			for node := range 8 {
				count++
				l = append(l, api.Write{Dot: dot(node, 100+count), Key: key, Value: bytes.Repeat([]byte{byte(i)}, 64), Ctx: early})
			}
			s.Keys = append(s.Keys, l)
		case !plainPrefers(c, rng, me) && len(s.Hints) < 32:
			s.Hints = append(s.Hints, hint(plainOrder(c, rng)[0], of(key, wr(i%8, i+1))))
		}
	}
	s.Hints = sortedHints(s.Hints)
	wantImage(t, "full", s, c, me)
	s.Keys = append(s.Keys, list(of("keys", wr(1, 1))))
	wantNoImage(t, "a key more", s, c, me)
	s.Keys = s.Keys[:64]
	s.Hints = append(s.Hints, hint(7, of("z", wr(1, 1))))
	wantNoImage(t, "a hint more", s, c, me)
}

// TestP2008Order: the errors ahead are those of P2001.
func TestP2008Order(t *testing.T) {
	wrong := five()
	wrong.Bag = 0
	for _, s := range []api.State{sample(), state(-1, nil, nil)} {
		for _, x := range []struct {
			c    api.Config
			me   int
			want api.Errno
		}{{wrong, 2, api.ErrArg}, {wrong, 9, api.ErrArg}, {five(), 5, api.ErrNode}, {five(), -1, api.ErrNode}} {
			if b, err := Rebuild(s, x.c, x.me); b != nil || err != x.want {
				t.Errorf("Rebuild: %d bytes, %d; want %d", len(b), err, x.want)
			}
		}
	}
}

// edit: a change of the sample, and whether node 2 of five can have what comes of it.
type edit struct {
	what string
	do   func(s *api.State)
	can  bool
}

func (e edit) try(t *testing.T, c api.Config) {
	t.Helper()
	s := sample()
	e.do(&s)
	if e.can {
		wantImage(t, e.what, s, c, 2)
		return
	}
	wantNoImage(t, e.what, s, c, 2)
}

func TestP2008Gen(t *testing.T) {
	for _, x := range []struct {
		gen int
		can bool
	}{{0, true}, {1, true}, {-1, false}, {281474976710655, true}, {281474976710656, false}, {math.MaxInt, false}, {math.MinInt, false}} {
		edit{fmt.Sprint("Gen ", x.gen), func(s *api.State) { s.Gen = x.gen }, x.can}.try(t, five())
	}
}

func TestP2008Clocks(t *testing.T) {
	bare := func(l ...api.Clock) func(s *api.State) {
		return func(s *api.State) { s.Keys, s.Clocks = nil, l }
	}
	for _, e := range []edit{
		{"none", bare(), true}, {"both", bare(cl(1), cl(2, sp(1, 1))), true}, {"the wrong way round", bare(cl(2), cl(1)), false}, {"the same twice", bare(cl(1, sp(0, 1)), cl(1, sp(1, 1))), false}, {"the same twice, without dots", bare(cl(2), cl(2)), false},
		{"a range that does not prefer the node", bare(cl(0, sp(0, 1))), false}, {"the same without dots", bare(cl(0)), false}, {"the last", bare(cl(2), cl(3)), false}, {"no range", bare(cl(4)), false}, {"the range -1", bare(cl(-1)), false}, {"the greatest number", bare(cl(math.MaxInt)), false}, {"the least", bare(cl(math.MinInt)), false},
		{"a node that is none", bare(cl(1, sp(5, 1))), false}, {"a negative node", bare(cl(1, sp(-1, 1))), false}, {"at the gap", bare(cl(1, sp(0, 0, 6))), true}, {"beyond it", bare(cl(1, sp(0, 0, 7))), false}, {"at Count", bare(cl(1, sp(0, 1000))), true}, {"beyond it", bare(cl(1, sp(0, 1001))), false}, {"beyond it by bits", bare(cl(1, sp(0, 999, 1001))), false},
		{"no set", bare(cl(1, sp(0, 1), sp(0, 2))), false}, {"nodes that don't rise", bare(cl(1, sp(1, 1), sp(0, 2))), false}, {"a span without dots", bare(cl(1, sp(0, 0))), false}, {"bit 0", bare(cl(1, sp(0, 1, 2))), false}, {"a negative base", bare(cl(1, sp(0, -1))), false}, {"the second is wrong", bare(cl(1), cl(2, sp(0, 0))), false},
	} {
		e.try(t, five())
	}
}

func TestP2008Keys(t *testing.T) {
	put := func(l ...[]api.Write) func(s *api.State) { return func(s *api.State) { s.Keys = l } }
	for _, e := range []edit{
		{"none", put(), true}, {"a list without writes", put(nil), false}, {"one behind another", put(list(wr(0, 1)), list()), false}, {"one ahead of another", put(list(), list(wr(0, 1))), false},
		{"as many siblings as there may be", put(list(wr(0, 1), wr(0, 2), wr(0, 4))), true}, {"one more", put(list(wr(0, 1), wr(0, 2), wr(0, 4), wr(2, 1))), false},
		{"two keys in a list", put(list(wr(0, 1), of("a", wr(0, 2)))), false}, {"dots that don't rise", put(list(wr(0, 2), wr(0, 1))), false}, {"nodes that don't rise", put(list(wr(2, 1), wr(0, 2))), false}, {"the same dot", put(list(wr(0, 1), wr(0, 1))), false},
		{"one covers the one ahead", put(list(wr(0, 1), wr(0, 2, sp(0, 1)))), false}, {"one covers the one behind", put(list(wr(0, 1, sp(0, 0, 2)), wr(0, 2))), false}, {"one knows of another key's", put(list(of("a", wr(0, 1))), list(wr(0, 2, sp(0, 1)))), true},
		{"the same key", put(list(wr(0, 1)), list(wr(0, 2))), false}, {"keys that don't rise", put(list(wr(0, 1)), list(of("a", wr(0, 2)))), false}, {"keys that rise", put(list(of("a", wr(0, 1))), list(wr(0, 2))), true}, {"another's key", put(list(of("g", wr(0, 1)))), false}, {"a key behind another's", put(list(of("a", wr(0, 1))), list(of("g", wr(0, 1)))), false},
		{"not in the clock", put(list(wr(0, 3))), false}, {"not in the clock, the second", put(list(wr(0, 1), wr(1, 1))), false}, {"beyond the clock", put(list(wr(2, 10))), false}, {"in another range's clock alone", put(list(of("p", wr(2, 1)))), false}, {"a node that the clock lacks", put(list(wr(4, 1))), false},
		{"a dot twice", put(list(of("a", wr(0, 1))), list(wr(0, 1))), false}, {"a dot twice, further on", put(list(of("a", wr(0, 2)), of("a", wr(2, 2))), list(wr(0, 1), wr(2, 2))), false}, {"a dot in two ranges", put(list(wr(0, 1)), list(of("p", wr(0, 1)))), true},
	} {
		e.try(t, five())
	}
}

func TestP2008Many(t *testing.T) {
	c := five()
	c.Keys, c.Hints = 3, 4
	edit{"just as many", func(s *api.State) {}, true}.try(t, c)
	c.Keys = 2
	edit{"a key too many", func(s *api.State) {}, false}.try(t, c)
	c.Keys, c.Hints = 3, 3
	edit{"a hint too many", func(s *api.State) {}, false}.try(t, c)
	edit{"not any more", func(s *api.State) { s.Hints = s.Hints[1:] }, true}.try(t, c)
	c.Hints = 0
	edit{"no hints", func(s *api.State) { s.Hints = s.Hints[:1] }, false}.try(t, c)
	edit{"none is there", func(s *api.State) { s.Hints = nil }, true}.try(t, c)
}

// writeEdits: what makes a write of the dot (0, 1) or (0, 5) wrong, or leaves it right.
func writeEdits() []struct {
	what string
	do   func(w *api.Write)
	can  bool
} {
	return []struct {
		what string
		do   func(w *api.Write)
		can  bool
	}{
		{"as it is", func(w *api.Write) {}, true}, {"a value of 64 bytes", func(w *api.Write) { w.Value = make([]byte, 64) }, true}, {"of 65", func(w *api.Write) { w.Value = make([]byte, 65) }, false}, {"dead with a value", func(w *api.Write) { w.Dead = true }, false}, {"dead", func(w *api.Write) { *w = gone(*w) }, true},
		{"no key", func(w *api.Write) { w.Key = "" }, false}, {"a long key", func(w *api.Write) { w.Key = strings.Repeat(w.Key, 17) }, false}, {"a node that is none", func(w *api.Write) { w.Dot.Node = 5 }, false}, {"node -1", func(w *api.Write) { w.Dot.Node = -1 }, false}, {"count 0", func(w *api.Write) { w.Dot.Count = 0 }, false}, {"count -1", func(w *api.Write) { w.Dot.Count = -1 }, false}, {"count 1001", func(w *api.Write) { w.Dot.Count = 1001 }, false},
		{"a context", func(w *api.Write) { w.Ctx = []api.Span{sp(1, 1000), sp(4, 0, 6)} }, true}, {"its own dot", func(w *api.Write) { w.Ctx = []api.Span{sp(w.Dot.Node, w.Dot.Count)} }, false}, {"of a node that is none", func(w *api.Write) { w.Ctx = []api.Span{sp(5, 1)} }, false}, {"beyond Gap", func(w *api.Write) { w.Ctx = []api.Span{sp(1, 0, 7)} }, false}, {"beyond Count", func(w *api.Write) { w.Ctx = []api.Span{sp(1, 1001)} }, false}, {"no set", func(w *api.Write) { w.Ctx = []api.Span{{}} }, false},
	}
}

// sortedHints: by owners, keys, dots.
func sortedHints(l []api.Hint) []api.Hint {
	sort.Slice(l, func(i, j int) bool { return plainBefore(l[i], l[j]) })
	return l
}

func TestP2008Writes(t *testing.T) {
	for _, x := range writeEdits() {
		edit{"a sibling: " + x.what, func(s *api.State) {
			s.Keys = [][]api.Write{{of("a", wr(0, 2))}, {wr(0, 1), wr(2, 2)}}
			x.do(&s.Keys[1][0])
		}, x.can}.try(t, five())
		edit{"a hint: " + x.what, func(s *api.State) { x.do(&s.Hints[0].Write) }, x.can}.try(t, five())
	}
}

func TestP2008Hints(t *testing.T) {
	put := func(l ...api.Hint) func(s *api.State) { return func(s *api.State) { s.Hints = l } }
	g, b := of("g", wr(0, 1)), of("b", wr(0, 1))
	for _, e := range []edit{
		{"none", put(), true}, {"owners rise", put(hint(1, g), hint(3, b)), true}, {"owners don't", put(hint(3, b), hint(1, g)), false}, {"keys rise", put(hint(1, b), hint(1, g)), true}, {"keys don't", put(hint(1, g), hint(1, b)), false},
		{"dots rise", put(hint(1, of("g", wr(0, 7))), hint(1, of("g", wr(1, 2)))), true}, {"counts rise", put(hint(1, of("g", wr(1, 1))), hint(1, of("g", wr(1, 2)))), true}, {"nodes don't", put(hint(1, of("g", wr(1, 2))), hint(1, of("g", wr(0, 7)))), false}, {"counts don't", put(hint(1, of("g", wr(1, 2))), hint(1, of("g", wr(1, 1)))), false},
		{"twice", put(hint(1, g), hint(1, g)), false}, {"twice, another value", put(hint(1, g), hint(1, gone(g))), false}, {"the same for two owners", put(hint(1, g), hint(3, g)), true},
		{"me", put(hint(2, g)), false}, {"me, where I am preferred", put(hint(2, wr(0, 1))), false}, {"no node", put(hint(5, g)), false}, {"node -1", put(hint(-1, g)), false}, {"the greatest number", put(hint(math.MaxInt, g)), false}, {"one that the range does not prefer", put(hint(0, g)), false}, {"a range that prefers me", put(hint(4, wr(0, 1))), false}, {"the second is wrong", put(hint(1, g), hint(4, g)), false},
	} {
		e.try(t, five())
	}
}
