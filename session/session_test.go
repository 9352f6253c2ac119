package session

import (
	"math"
	"slices"
	"strings"
	"testing"

	"rookery/api"
	"rookery/ring"
)

func TestP1501New(t *testing.T) {
	wrong := func(do func(c *api.Config)) api.Config {
		c := four()
		do(&c)
		return c
	}
	for _, c := range []struct {
		config api.Config
		first  int
		want   api.Errno
	}{
		{api.Config{}, 0, api.ErrArg}, {api.Config{}, 9, api.ErrArg}, {wrong(func(c *api.Config) { c.Prefer = 5 }), -1, api.ErrArg}, {wrong(func(c *api.Config) { c.Nodes = 9 }), 0, api.ErrArg},
		{wrong(func(c *api.Config) { c.Hints = -1 }), 0, api.ErrArg}, {wrong(func(c *api.Config) { c.Gap = 65 }), 4, api.ErrArg}, {wrong(func(c *api.Config) { c.Bag = 0 }), 1, api.ErrArg},
		{four(), 4, api.ErrNode}, {four(), -1, api.ErrNode}, {four(), math.MaxInt, api.ErrNode}, {four(), math.MinInt, api.ErrNode}, {wrong(func(c *api.Config) { c.Nodes = 3 }), 3, api.ErrNode},
	} {
		if s, err := New(c.config, c.first); s != nil || err != c.want {
			t.Errorf("New(%v, %d): %v, %d; want nil, %d", c.config, c.first, s != nil, err, c.want)
		}
	}
	s := fresh(t, four(), 0)
	for _, key := range []string{"c", "g", "", "other"} {
		wantSeen(t, s, key, 0)
	}
}

// keyOf: a key of a range.
func keyOf(t *testing.T, c api.Config, rng int) string {
	t.Helper()
	for x := range 1000 {
		if key := string([]byte{byte(x), byte(x >> 8)}); rangeOf(c, key) == rng {
			return key
		}
	}
	t.Fatalf("no key lies in %d", rng)
	return ""
}

func rangeOf(c api.Config, key string) int {
	circle, _ := ring.New(c.Nodes, c.Ranges)
	return circle.Range(key)
}

// preferred: by the ring's order, of nodes and ranges as they are.
func preferred(c api.Config, rng int) []int {
	circle, _ := ring.New(c.Nodes, c.Ranges)
	order, _ := circle.Order(rng)
	return order[:c.Prefer]
}

// liked: the first of a list that is in another.
func liked(liking, among []int) int {
	for _, node := range liking {
		if slices.Contains(among, node) {
			return node
		}
	}
	return -1
}

// TestP1502EveryConfig: whoever is first, whatever is preferred; and as one node behind the other fails.
func TestP1502EveryConfig(t *testing.T) {
	for nodes := 1; nodes <= api.MaxNodes; nodes++ {
		for prefer := 1; prefer <= min(nodes, api.MaxPrefer); prefer++ {
			for first := range nodes {
				c := four()
				c.Nodes, c.Prefer, c.Ranges = nodes, prefer, 4
				s := fresh(t, c, first)
				var liking []int
				for i := range nodes {
					liking = append(liking, (first+i)%nodes)
				}
				for i := range 2*nodes + 3 {
					for rng := range c.Ranges {
						wantNext(t, s, keyOf(t, c, rng), liked(liking, preferred(c, rng)))
					}
					fails := (i*3 + first*5 + i/3) % nodes
					s.Failed(fails)
					at := slices.Index(liking, fails)
					liking = slices.Concat(liking[:at], liking[at+1:], []int{fails})
				}
			}
		}
	}
}

func TestP1502Key(t *testing.T) {
	s := fresh(t, four(), 3)
	for _, key := range []string{"", strings.Repeat("k", 17), strings.Repeat("k", 1000)} {
		if n, err := s.Next(key); n != 0 || err != api.ErrKey {
			t.Errorf("Next of %d bytes: %d, %d", len(key), n, err)
		}
	}
	for _, key := range []string{"\x00", strings.Repeat("k", 16), "\xff\xfe"} {
		if _, err := s.Next(key); err != api.OK {
			t.Errorf("Next(%q): %d", key, err)
		}
	}
}

// TestP1502Failed: what is no node changes nothing; the last stays the last; Next changes nothing.
func TestP1502Failed(t *testing.T) {
	s := fresh(t, four(), 3)
	for _, node := range []int{-1, 4, 7, math.MaxInt, math.MinInt} {
		s.Failed(node)
		wantNext(t, s, "c", 3)
		wantNext(t, s, "c", 3)
		wantNext(t, s, "g", 3)
	}
	s.Failed(2)
	s.Failed(2)
	wantNext(t, s, "c", 3)
	for range 3 {
		s.Failed(3)
		wantNext(t, s, "c", 2)
		wantNext(t, s, "g", 1)
	}
	s.Failed(1)
	wantNext(t, s, "g", 3)
	s.Failed(2)
	wantNext(t, s, "c", 3)
}

// TestP1503AnyString: any may be asked for.
func TestP1503AnyString(t *testing.T) {
	s := fresh(t, four(), 0)
	wantErr(t, "Wrote", s.Wrote(wr("c", 2, 1)), api.OK)
	wantErr(t, "Got", s.Got(3, "c", spans(sp(2, 1)), list(wr("c", 2, 1))), api.OK)
	for _, key := range []string{"", "cc", "C", "c\x00", strings.Repeat("c", 17), strings.Repeat("c", 100000), "\xff"} {
		wantSeen(t, s, key, 0)
	}
	wantSeen(t, s, "c", 3, dot(2, 1))
}

// TestP1503Rising: by node, then by count as a number; whichever came first.
func TestP1503Rising(t *testing.T) {
	s := fresh(t, four(), 0)
	for _, d := range []api.Dot{dot(2, 10), dot(0, 100), dot(3, 1), dot(2, 9), dot(0, 7), dot(2, 1), dot(1, 50)} {
		wantErr(t, "Wrote", s.Wrote(wr("c", d.Node, d.Count)), api.OK)
	}
	for range 20 {
		wantSeen(t, s, "c", 0, dot(0, 7), dot(0, 100), dot(1, 50), dot(2, 1), dot(2, 9), dot(2, 10), dot(3, 1))
	}
}

// TestP1503LastOK: refused answers leave the token and the heads as they are; a lesser number counts, too, if it came last.
func TestP1503LastOK(t *testing.T) {
	s := fresh(t, four(), 0)
	wantErr(t, "Got", s.Got(9, "c", nil, nil), api.OK)
	wantSeen(t, s, "c", 9)
	wantErr(t, "Got", s.Got(4, "c", spans(sp(2, 1)), list(wr("c", 2, 1))), api.OK)
	wantSeen(t, s, "c", 4, dot(2, 1))
	wantErr(t, "Got", s.Got(11, "c", spans(sp(3, 1)), nil), api.ErrStale)
	wantSeen(t, s, "c", 4, dot(2, 1))
	wantErr(t, "Got", s.Got(4, "c", spans(sp(2, 2)), list(wr("c", 2, 2, sp(2, 1)))), api.OK)
	wantSeen(t, s, "c", 4, dot(2, 2))
}

// wrongWrites: each of the key c, none right; the dots of all that can be in a set are 0.1 or 2.3.
func wrongWrites() map[string]api.Write {
	at := func(do func(w *api.Write)) api.Write {
		w := wr("c", 2, 3, sp(2, 2))
		do(&w)
		return w
	}
	return map[string]api.Write{
		"a long value":       at(func(w *api.Write) { w.Value = make([]byte, 65) }),
		"dead with a value":  at(func(w *api.Write) { w.Dead = true }),
		"its own dot":        at(func(w *api.Write) { w.Ctx = spans(sp(2, 3)) }),
		"no set":             at(func(w *api.Write) { w.Ctx = spans(sp(2, 0)) }),
		"no set of the gap":  at(func(w *api.Write) { w.Ctx = spans(far(2, 3, 16)) }),
		"a node too many":    at(func(w *api.Write) { w.Ctx = spans(sp(4, 1)) }),
		"a count too many":   at(func(w *api.Write) { w.Ctx = spans(sp(0, 101)) }),
		"beyond the count":   at(func(w *api.Write) { w.Ctx = spans(far(0, 98, 4)) }),
		"no such node":       at(func(w *api.Write) { w.Dot.Node = 4 }),
		"a node below 0":     at(func(w *api.Write) { w.Dot.Node = -1 }),
		"the count 0":        at(func(w *api.Write) { w.Dot.Count = 0 }),
		"the count 101":      at(func(w *api.Write) { w.Dot, w.Ctx = dot(2, 101), nil }),
		"the count below 0":  at(func(w *api.Write) { w.Dot.Count = math.MinInt }),
		"the greatest count": at(func(w *api.Write) { w.Dot.Count = math.MaxInt }),
	}
}

func TestP1504NotRight(t *testing.T) {
	s := fresh(t, four(), 0)
	wantErr(t, "Wrote", s.Wrote(wr("c", 2, 1)), api.OK)
	wantErr(t, "Wrote", s.Wrote(wr("c", 2, 2)), api.OK)
	wrong := wrongWrites()
	wrong["no key"], wrong["a long key"] = wr("", 2, 3), wr(strings.Repeat("c", 17), 2, 3)
	for what, w := range wrong {
		wantErr(t, "Wrote with "+what, s.Wrote(w), api.ErrWrite)
		wantSeen(t, s, "c", 0, dot(2, 1), dot(2, 2))
		if w.Key != "c" {
			wantSeen(t, s, w.Key, 0)
		}
	}
}

// TestP1504AtTheLimits: what is just right.
func TestP1504AtTheLimits(t *testing.T) {
	s := fresh(t, four(), 0)
	key := strings.Repeat("\xff", 16)
	for _, w := range []api.Write{
		{Key: key, Dot: dot(3, 100), Value: make([]byte, 64), Ctx: spans(sp(0, 100), far(1, 96, 8), sp(3, 99))},
		{Key: key, Dot: dot(0, 1), Dead: true, Ctx: spans(sp(3, 100))},
		{Key: key, Dot: dot(2, 5), Ctx: spans(far(0, 0, 2), far(2, 3, 4))},
	} {
		wantErr(t, "Wrote", s.Wrote(w), api.OK)
	}
	wantSeen(t, s, key, 0, dot(0, 1), dot(2, 5))
}

// TestP1504Heads: what the context has goes, by base and by bit; what it has not stays; the same dot stands once.
func TestP1504Heads(t *testing.T) {
	s := fresh(t, four(), 0)
	for i := range 6 {
		wantErr(t, "Wrote", s.Wrote(wr("c", 1, i+1)), api.OK)
	}
	wantErr(t, "Wrote", s.Wrote(wr("c", 2, 1, far(1, 2, 4))), api.OK)
	wantSeen(t, s, "c", 0, dot(1, 3), dot(1, 4), dot(1, 6), dot(2, 1))
	wantErr(t, "Wrote", s.Wrote(wr("c", 2, 1)), api.OK)
	wantSeen(t, s, "c", 0, dot(1, 3), dot(1, 4), dot(1, 6), dot(2, 1))
	wantErr(t, "Wrote", s.Wrote(wr("c", 1, 4, sp(1, 3))), api.OK)
	wantSeen(t, s, "c", 0, dot(1, 4), dot(1, 6), dot(2, 1))
	wantErr(t, "Wrote", s.Wrote(wr("c", 0, 1, sp(1, 6), sp(2, 9), sp(3, 9))), api.OK)
	wantSeen(t, s, "c", 0, dot(0, 1))
}

// TestP1504AnOldWrite: it counts as it is told, though one that is seen already covers it.
func TestP1504AnOldWrite(t *testing.T) {
	s := fresh(t, four(), 0)
	wantErr(t, "Wrote", s.Wrote(wr("c", 2, 2, sp(2, 1))), api.OK)
	wantErr(t, "Wrote", s.Wrote(wr("c", 2, 1)), api.OK)
	wantSeen(t, s, "c", 0, dot(2, 1), dot(2, 2))
}

// TestP1504TokenStays: over any number of writes, till the key is read.
func TestP1504TokenStays(t *testing.T) {
	s := fresh(t, four(), 0)
	wantErr(t, "Got", s.Got(8, "c", nil, nil), api.OK)
	for i := range 5 {
		wantErr(t, "Wrote", s.Wrote(wr("c", 2, i+1)), api.OK)
		if s.Token("c") != 8 {
			t.Errorf("Token: %d", s.Token("c"))
		}
	}
	wantErr(t, "Got", s.Got(20, "c", spans(sp(2, 5)), list(wr("c", 2, 5, sp(2, 4)))), api.OK)
	wantSeen(t, s, "c", 20, dot(2, 5))
}

// asked: what a Got is handed.
type asked struct {
	call   int
	key    string
	token  []api.Span
	writes []api.Write
}

func (a asked) of(s *Session) api.Errno { return s.Got(a.call, a.key, a.token, a.writes) }

// TestP1505Order: every choice of faults: the first of them counts, and nothing has changed.
func TestP1505Order(t *testing.T) {
	errs := []api.Errno{api.ErrArg, api.ErrKey, api.ErrSet, api.ErrWrite, api.ErrStale}
	for faults := range 1 << len(errs) {
		s := fresh(t, four(), 0)
		wantErr(t, "Wrote", s.Wrote(wr("c", 2, 1)), api.OK)
		wantErr(t, "Wrote", s.Wrote(wr("c", 3, 9)), api.OK)
		has := func(err api.Errno) bool { return faults>>slices.Index(errs, err)&1 == 1 }
		a := asked{call: 7, key: "c", token: spans(sp(2, 2), sp(3, 9)), writes: list(wr("c", 2, 2, sp(2, 1)), wr("c", 3, 9))}
		if has(api.ErrArg) {
			a.call = 0
		}
		if has(api.ErrKey) {
			a.key = ""
		}
		if has(api.ErrStale) {
			a.token, a.writes = a.token[:1], a.writes[:1]
		}
		if has(api.ErrWrite) {
			a.writes = append(a.writes, wr("b", 3, 9))
		}
		if has(api.ErrSet) {
			a.token = append(a.token, sp(2, 1))
		}
		want := api.OK
		for _, err := range errs {
			if want == api.OK && has(err) {
				want = err
			}
		}
		wantErr(t, "Got", a.of(s), want)
		if want == api.OK {
			wantSeen(t, s, "c", 7, dot(2, 2), dot(3, 9))
		} else {
			wantSeen(t, s, "c", 0, dot(2, 1), dot(3, 9))
		}
	}
}

func TestP1505Call(t *testing.T) {
	for call, want := range map[int]api.Errno{math.MinInt: 1, -1: 1, 0: 1, 1: 0, 2: 0, 4095: 0, 4096: 0, 4097: 1, math.MaxInt: 1} {
		s := fresh(t, four(), 0)
		wantErr(t, "Got", s.Got(call, "c", nil, nil), want)
		if want == api.OK {
			wantSeen(t, s, "c", call)
		} else {
			wantSeen(t, s, "c", 0)
		}
	}
}

func TestP1505Key(t *testing.T) {
	s := fresh(t, four(), 0)
	for _, key := range []string{"", strings.Repeat("k", 17)} {
		wantErr(t, "Got", s.Got(1, key, nil, nil), api.ErrKey)
		wantSeen(t, s, key, 0)
	}
	key := strings.Repeat("k", 16)
	wantErr(t, "Got", s.Got(1, key, spans(sp(0, 1)), list(wr(key, 0, 1))), api.OK)
	wantSeen(t, s, key, 1, dot(0, 1))
}

func TestP1505Token(t *testing.T) {
	s := fresh(t, four(), 0)
	for _, set := range [][]api.Span{
		spans(sp(4, 1)), spans(sp(-1, 1)), spans(sp(2, 101)), spans(far(2, 97, 8)), spans(far(2, 0, 16)), spans(far(2, 3, 1)), spans(sp(2, 0)), spans(sp(2, -1)),
		spans(sp(2, 1), sp(2, 2)), spans(sp(2, 1), sp(1, 1)), spans(sp(0, 1), sp(3, 1), sp(7, 1)), spans(sp(math.MaxInt, math.MaxInt)),
	} {
		wantErr(t, "Got", s.Got(1, "c", set, nil), api.ErrSet)
		wantSeen(t, s, "c", 0)
	}
	for i, set := range [][]api.Span{nil, {}, spans(sp(3, 100)), spans(far(2, 96, 8)), spans(far(2, 0, 14)), spans(sp(0, 1), sp(1, 1), sp(2, 1), sp(3, 1))} {
		wantErr(t, "Got", s.Got(i+1, "c", set, nil), api.OK)
		wantSeen(t, s, "c", i+1)
	}
}

func TestP1505Writes(t *testing.T) {
	s := fresh(t, four(), 0)
	token := spans(sp(0, 2), far(2, 3, 4), sp(3, 100))
	refused := func(what string, l ...api.Write) {
		t.Helper()
		wantErr(t, "Got with "+what, s.Got(1, "c", token, l), api.ErrWrite)
		wantSeen(t, s, "c", 0)
	}
	for what, w := range wrongWrites() {
		refused(what, w)
		refused(what+", last", wr("c", 0, 1), wr("c", 2, 1), w)
		refused(what+", first", w, wr("c", 3, 1))
	}
	refused("another key", wr("b", 2, 3))
	refused("another key, last", wr("c", 0, 1), wr("g", 2, 3))
	refused("no key", wr("", 2, 3))
	refused("a dot that the token has not", wr("c", 2, 4))
	refused("a dot beyond it", wr("c", 2, 7))
	refused("a node that it has not", wr("c", 1, 1))
	refused("one twice", wr("c", 2, 3), wr("c", 2, 3))
	refused("counts that sink", wr("c", 2, 3), wr("c", 2, 1))
	refused("nodes that sink", wr("c", 2, 1), wr("c", 0, 2))
	refused("the last two alike", wr("c", 0, 1), wr("c", 2, 2), wr("c", 2, 2))
	l := list(wr("c", 0, 1), wr("c", 0, 2), wr("c", 2, 1, sp(0, 9)), wr("c", 2, 3), wr("c", 2, 6), wr("c", 3, 9), wr("c", 3, 10))
	wantErr(t, "Got", s.Got(2, "c", token, l), api.OK)
	wantSeen(t, s, "c", 2, dot(0, 1), dot(0, 2), dot(2, 1), dot(2, 3), dot(2, 6), dot(3, 9), dot(3, 10))
}

// TestP1505Stale: each head by itself; what is seen no more is not asked for.
func TestP1505Stale(t *testing.T) {
	s := fresh(t, four(), 0)
	token := spans(sp(0, 1), far(2, 1, 4), sp(3, 2))
	wantErr(t, "Got", s.Got(1, "c", token, list(wr("c", 0, 1), wr("c", 2, 4), wr("c", 3, 2))), api.OK)
	for _, set := range [][]api.Span{nil, spans(sp(0, 1), sp(2, 4)), spans(sp(0, 1), sp(3, 2)), spans(sp(2, 4), sp(3, 2)), spans(sp(0, 1), sp(2, 3), sp(3, 2)), spans(sp(0, 1), far(2, 1, 8), sp(3, 2)), spans(sp(0, 1), far(2, 4, 0), far(3, 0, 0b100))} {
		wantErr(t, "Got", s.Got(2, "c", set, nil), api.ErrStale)
		wantSeen(t, s, "c", 1, dot(0, 1), dot(2, 4), dot(3, 2))
	}
	wantErr(t, "Got", s.Got(3, "c", spans(sp(0, 1), sp(2, 4), far(3, 0, 2)), list(wr("c", 2, 3, sp(0, 1)))), api.OK)
	wantSeen(t, s, "c", 3, dot(2, 3))
	wantErr(t, "Got", s.Got(4, "c", spans(sp(2, 3)), nil), api.OK)
	wantErr(t, "Got", s.Got(5, "c", nil, nil), api.OK)
	wantSeen(t, s, "c", 5)
}

// TestP1506Keys: what is done with one key is not seen of another, of the same range or not.
func TestP1506Keys(t *testing.T) {
	s := fresh(t, four(), 0)
	wantErr(t, "Wrote", s.Wrote(wr("c", 2, 1)), api.OK)
	wantErr(t, "Got", s.Got(3, "g", nil, nil), api.OK)
	wantErr(t, "Wrote", s.Wrote(wr("g", 2, 9, sp(2, 8))), api.OK)
	wantErr(t, "Got", s.Got(4, "b", spans(sp(0, 1)), list(wr("b", 0, 1))), api.OK)
	wantSeen(t, s, "c", 0, dot(2, 1))
	wantSeen(t, s, "g", 3, dot(2, 9))
	wantSeen(t, s, "b", 4, dot(0, 1))
}

func TestP1506TwoSessions(t *testing.T) {
	s, other := fresh(t, four(), 3), fresh(t, four(), 3)
	s.Failed(3)
	wantErr(t, "Got", s.Got(3, "c", spans(sp(2, 1)), list(wr("c", 2, 1))), api.OK)
	wantErr(t, "Wrote", s.Wrote(wr("g", 1, 1)), api.OK)
	wantNext(t, other, "c", 3)
	wantSeen(t, other, "c", 0)
	wantSeen(t, other, "g", 0)
	wantErr(t, "Got", other.Got(3, "c", nil, nil), api.OK)
}
