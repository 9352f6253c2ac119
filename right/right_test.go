package right

import (
	"math"
	"strings"
	"testing"

	"rookery/api"
)

func three() api.Config {
	return api.Config{Nodes: 3, Prefer: 2, Ranges: 2, Siblings: 2, Gap: 4, Count: 100, Keys: 2, Hints: 1, Bag: 9}
}

func sp(node, base int, bits uint64) api.Span { return api.Span{Node: node, Base: base, Bits: bits} }

func TestKey(t *testing.T) {
	for n := range 40 {
		if got := Key(strings.Repeat("\xff", n)); got != (n >= 1 && n <= 16) {
			t.Errorf("a key of %d bytes: %v", n, got)
		}
	}
}

func TestTop(t *testing.T) {
	for _, c := range []struct {
		x    api.Span
		want int
	}{{sp(1, 0, 2), 2}, {sp(1, 7, 0), 7}, {sp(1, 7, 2), 9}, {sp(0, 7, 6), 10}, {sp(0, 1, 1<<63), 65}, {sp(0, 1<<20, 0), 1 << 20}} {
		if got := Top(c.x); got != c.want {
			t.Errorf("Top(%v): %d; want %d", c.x, got, c.want)
		}
	}
}

func TestSet(t *testing.T) {
	for _, c := range []struct {
		s    []api.Span
		want bool
	}{
		{nil, true}, {[]api.Span{}, true}, {[]api.Span{sp(0, 1, 0), sp(2, 100, 0)}, true}, {[]api.Span{sp(2, 96, 8)}, true}, {[]api.Span{sp(1, 0, 14)}, true},
		{[]api.Span{sp(3, 1, 0)}, false}, {[]api.Span{sp(0, 1, 0), sp(3, 1, 0)}, false}, {[]api.Span{sp(-1, 1, 0)}, false}, {[]api.Span{sp(math.MaxInt, 1, 0)}, false},
		{[]api.Span{sp(2, 101, 0)}, false}, {[]api.Span{sp(2, 97, 8)}, false}, {[]api.Span{sp(0, 97, 8), sp(2, 1, 0)}, false}, {[]api.Span{sp(2, math.MaxInt, 2)}, false}, {[]api.Span{sp(2, -1, 4)}, false},
		{[]api.Span{sp(1, 0, 16)}, false}, {[]api.Span{sp(1, 0, 1)}, false}, {[]api.Span{sp(1, 5, 3)}, false}, {[]api.Span{sp(1, 0, 0)}, false}, {[]api.Span{sp(1, 1, 0), sp(0, 1, 0)}, false}, {[]api.Span{sp(1, 1, 0), sp(1, 2, 0)}, false},
	} {
		if got := Set(three(), c.s); got != c.want {
			t.Errorf("Set(%v): %v", c.s, got)
		}
	}
}

// TestSetOfAnyConfig: each number of the config counts by itself.
func TestSetOfAnyConfig(t *testing.T) {
	c := three()
	c.Nodes, c.Gap, c.Count = 8, 64, api.MaxCount
	for _, s := range [][]api.Span{{sp(7, 1, 0)}, {sp(0, 1, 1<<63)}, {sp(0, api.MaxCount, 0)}} {
		if !Set(c, s) || Set(three(), s) {
			t.Errorf("Set(%v): %v, and %v of the lesser config", s, Set(c, s), Set(three(), s))
		}
	}
}

func TestWrite(t *testing.T) {
	good := api.Write{Dot: api.Dot{Node: 2, Count: 3}, Key: "k", Value: []byte("v"), Ctx: []api.Span{sp(0, 1, 0), sp(2, 2, 0)}}
	for _, c := range []struct {
		what string
		do   func(w *api.Write)
		want bool
	}{
		{"as it is", func(w *api.Write) {}, true}, {"no key", func(w *api.Write) { w.Key = "" }, false},
		{"a key of 16 bytes", func(w *api.Write) { w.Key = strings.Repeat("k", 16) }, true}, {"of 17", func(w *api.Write) { w.Key = strings.Repeat("k", 17) }, false},
		{"a value of 64 bytes", func(w *api.Write) { w.Value = make([]byte, 64) }, true}, {"of 65", func(w *api.Write) { w.Value = make([]byte, 65) }, false}, {"none", func(w *api.Write) { w.Value = nil }, true},
		{"dead with a value", func(w *api.Write) { w.Dead = true }, false}, {"dead", func(w *api.Write) { w.Dead, w.Value = true, []byte{} }, true},
		{"node -1", func(w *api.Write) { w.Dot.Node = -1 }, false}, {"node 0", func(w *api.Write) { w.Dot.Node = 0 }, true}, {"node 3", func(w *api.Write) { w.Dot.Node = 3 }, false},
		{"count 0", func(w *api.Write) { w.Dot = api.Dot{Node: 1} }, false}, {"count -1", func(w *api.Write) { w.Dot = api.Dot{Node: 1, Count: -1} }, false}, {"count 1", func(w *api.Write) { w.Dot = api.Dot{Node: 1, Count: 1} }, true},
		{"count 100", func(w *api.Write) { w.Dot.Count = 100 }, true}, {"count 101", func(w *api.Write) { w.Dot.Count = 101 }, false},
		{"a context without anything", func(w *api.Write) { w.Ctx = nil }, true}, {"one that is no set", func(w *api.Write) { w.Ctx = []api.Span{sp(1, 0, 0)} }, false}, {"of another config", func(w *api.Write) { w.Ctx = []api.Span{sp(3, 1, 0)} }, false},
		{"its own dot", func(w *api.Write) { w.Ctx = []api.Span{sp(2, 3, 0)} }, false}, {"its own dot beyond the base", func(w *api.Write) { w.Ctx = []api.Span{sp(2, 1, 2)} }, false}, {"dots around it", func(w *api.Write) { w.Ctx = []api.Span{sp(2, 2, 2)} }, true},
	} {
		w := good
		c.do(&w)
		if got := Write(three(), w); got != c.want {
			t.Errorf("%s: %v", c.what, got)
		}
	}
}
