package session

import (
	"fmt"
	"math/rand"
	"slices"
	"strings"
	"testing"

	"rookery/api"
)

// plain: a session by the chapter's rules: heads in sorted lists, sets as single dots.
type plain struct {
	c      api.Config
	liking []int
	heads  map[string][]api.Dot
	tokens map[string]int
}

func plainOf(c api.Config, first int) *plain {
	p := &plain{c: c, heads: map[string][]api.Dot{}, tokens: map[string]int{}}
	for node := first; node < c.Nodes; node++ {
		p.liking = append(p.liking, node)
	}
	for node := range first {
		p.liking = append(p.liking, node)
	}
	return p
}

func (p *plain) failed(node int) {
	if node < 0 || node >= p.c.Nodes {
		return
	}
	var rest []int
	for _, n := range p.liking {
		if n != node {
			rest = append(rest, n)
		}
	}
	p.liking = append(rest, node)
}

// dots: a set as single dots; false, if it is none of the config.
func (p *plain) dots(s []api.Span) (map[api.Dot]int, bool) {
	out, last := map[api.Dot]int{}, -1
	for _, x := range s {
		if x.Node <= last || x.Node >= p.c.Nodes || x.Base < 0 || x.Base > p.c.Count || x.Base == 0 && x.Bits == 0 || x.Bits&1 == 1 {
			return nil, false
		}
		last = x.Node
		for c := range x.Base {
			out[dot(x.Node, c+1)] = 1
		}
		for i := range 64 {
			if x.Bits>>i&1 == 0 {
				continue
			}
			if i >= p.c.Gap || x.Base+1+i > p.c.Count {
				return nil, false
			}
			out[dot(x.Node, x.Base+1+i)] = 1
		}
	}
	return out, true
}

func isKey(key string) bool { return key != "" && len(key) < 17 }

func (p *plain) right(w api.Write) bool {
	ctx, ok := p.dots(w.Ctx)
	return isKey(w.Key) && len(w.Value) < 65 && (len(w.Value) == 0 || !w.Dead) && w.Dot.Node >= 0 && w.Dot.Node < p.c.Nodes && w.Dot.Count > 0 && w.Dot.Count <= p.c.Count && ok && ctx[w.Dot] == 0
}

func rise(a, b api.Dot) bool { return a.Node < b.Node || a.Node == b.Node && a.Count < b.Count }

func (p *plain) wrote(w api.Write) api.Errno {
	if !p.right(w) {
		return 52
	}
	ctx, _ := p.dots(w.Ctx)
	var ahead, behind []api.Dot
	for _, d := range p.heads[w.Key] {
		switch {
		case ctx[d] == 1 || d == w.Dot:
		case rise(d, w.Dot):
			ahead = append(ahead, d)
		default:
			behind = append(behind, d)
		}
	}
	p.heads[w.Key] = slices.Concat(ahead, []api.Dot{w.Dot}, behind)
	return 0
}

func (p *plain) got(a asked) api.Errno {
	if a.call < 1 || a.call > 4096 {
		return 1
	}
	if !isKey(a.key) {
		return 50
	}
	token, ok := p.dots(a.token)
	if !ok {
		return 30
	}
	var heads []api.Dot
	for i, w := range a.writes {
		if !p.right(w) || w.Key != a.key || token[w.Dot] == 0 || i > 0 && !rise(a.writes[i-1].Dot, w.Dot) {
			return 52
		}
		heads = append(heads, w.Dot)
	}
	for _, d := range p.heads[a.key] {
		if token[d] == 0 {
			return 150
		}
	}
	p.heads[a.key], p.tokens[a.key] = heads, a.call
	return 0
}

func (p *plain) everything(keys ...string) string {
	text := ""
	for _, key := range keys {
		n, err := 0, api.ErrKey
		if isKey(key) {
			n, err = liked(p.liking, preferred(p.c, rangeOf(p.c, key))), api.OK
		}
		text += fmt.Sprintf("%q: %d, %d, call %d, heads %v; ", key, n, err, p.tokens[key], p.heads[key])
	}
	return text
}

func oneOf[T any](r *rand.Rand, l ...T) T { return l[r.Intn(len(l))] }

// anySet: mostly a right one, of small counts.
func anySet(r *rand.Rand, c api.Config) []api.Span {
	var out []api.Span
	for node := range c.Nodes {
		if r.Intn(4) > 0 {
			out = append(out, far(node, 1+r.Intn(6), uint64(r.Intn(1<<min(c.Gap, 4)))&^1))
		}
	}
	if len(out) == 0 || r.Intn(6) > 0 {
		return out
	}
	x := &out[r.Intn(len(out))]
	switch r.Intn(4) {
	case 0:
		x.Bits |= oneOf[uint64](r, 1, 1<<c.Gap, 1<<63)
	case 1:
		x.Base = oneOf(r, -1, 0, c.Count-1, c.Count, c.Count+1)
	case 2:
		x.Node = oneOf(r, -1, c.Nodes, 8)
	case 3:
		out = append(out, *x)
	}
	return out
}

func anyKey(r *rand.Rand) string {
	return oneOf(r, "c", "c", "c", "g", "g", "k", "", strings.Repeat("x", 16), strings.Repeat("x", 17))
}

func anyWrite(r *rand.Rand, c api.Config, key string) api.Write {
	w := wr(key, r.Intn(c.Nodes), 1+r.Intn(8))
	if r.Intn(2) == 0 {
		w.Ctx = anySet(r, c)
	}
	switch r.Intn(30) {
	case 0:
		w.Dead = true
	case 1:
		w.Dead, w.Value = true, nil
	case 2:
		w.Value = make([]byte, oneOf(r, 64, 65))
	case 3:
		w.Dot = dot(oneOf(r, -1, c.Nodes), 1)
	case 4:
		w.Dot.Count = oneOf(r, -1, 0, c.Count, c.Count+1)
	}
	return w
}

// anyRead: mostly a good one: a token that has what is seen, writes of it that rise.
func anyRead(r *rand.Rand, p *plain) asked {
	a := asked{call: 1 + r.Intn(9), key: anyKey(r), token: anySet(r, p.c)}
	if r.Intn(15) == 0 {
		a.call = oneOf(r, -1, 0, 4096, 4097)
	}
	for range r.Intn(4) {
		w := anyWrite(r, p.c, a.key)
		if has, ok := p.dots(a.token); ok && has[w.Dot] == 1 || r.Intn(8) == 0 {
			a.writes = append(a.writes, w)
		}
	}
	if r.Intn(8) > 0 {
		slices.SortFunc(a.writes, func(x, y api.Write) int { return x.Dot.Node*1000 + x.Dot.Count - y.Dot.Node*1000 - y.Dot.Count })
		a.writes = slices.CompactFunc(a.writes, func(x, y api.Write) bool { return x.Dot == y.Dot })
	}
	if len(a.writes) > 0 && r.Intn(20) == 0 {
		a.writes[r.Intn(len(a.writes))].Key = "z"
	}
	return a
}

// TestModel: random calls against the chapter's rules.
func TestModel(t *testing.T) {
	met := map[string]int{}
	for seed := range int64(300) {
		r := rand.New(rand.NewSource(seed))
		c := four()
		c.Nodes = 1 + r.Intn(5)
		c.Prefer, c.Ranges, c.Gap, c.Count = 1+r.Intn(c.Nodes), 1+r.Intn(4), 1+r.Intn(6), oneOf(r, 8, 12, 100)
		first := r.Intn(c.Nodes)
		s, p := fresh(t, c, first), plainOf(c, first)
		for range 80 {
			switch r.Intn(6) {
			case 0:
				node := r.Intn(c.Nodes+2) - 1
				s.Failed(node)
				p.failed(node)
			case 1:
				w := anyWrite(r, c, anyKey(r))
				got, want := s.Wrote(w), p.wrote(w)
				wantErr(t, fmt.Sprintf("Wrote(%v)", w), got, want)
				met[fmt.Sprint("Wrote ", int(got))]++
			default:
				a := anyRead(r, p)
				got, want := a.of(s), p.got(a)
				wantErr(t, fmt.Sprintf("Got(%v)", a), got, want)
				met[fmt.Sprint("Got ", int(got))]++
			}
			keys := []string{"c", "g", "k", "z", "", strings.Repeat("x", 16), strings.Repeat("x", 17)}
			if got, want := everything(s, keys...), p.everything(keys...); got != want {
				t.Fatalf("seed %d: %s; want %s", seed, got, want)
			}
			if t.Failed() {
				t.Fatalf("seed %d", seed)
			}
		}
	}
	for _, what := range []string{"Wrote 0", "Wrote 52", "Got 0", "Got 1", "Got 50", "Got 30", "Got 52", "Got 150"} {
		if met[what] < 300 {
			t.Errorf("%s: only %d calls; of all %v", what, met[what], met)
		}
	}
}
