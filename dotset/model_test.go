package dotset

import (
	"math/rand"
	"slices"
	"testing"

	"rookery/api"
)

// plain: a set of dots as nothing but its dots.
type plain map[api.Dot]bool

// base tells the count up to which p has all of a node.
func (p plain) base(node int) int {
	c := 0
	for p[dot(node, c+1)] {
		c++
	}
	return c
}

// spans tells the form of p, count by count.
func (p plain) spans() []api.Span {
	var s []api.Span
	for node := range api.MaxNodes {
		base := p.base(node)
		var beyond []int
		for d := range p {
			if d.Node == node && d.Count > base {
				beyond = append(beyond, d.Count)
			}
		}
		if base > 0 || len(beyond) > 0 {
			s = append(s, sp(node, base, beyond...))
		}
	}
	return s
}

// lacks tells the dots of p that q has not, in their order.
func (p plain) lacks(q plain) []api.Dot {
	var dots []api.Dot
	for d := range p {
		if !q[d] {
			dots = append(dots, d)
		}
	}
	slices.SortFunc(dots, func(a, b api.Dot) int {
		if a.Node != b.Node {
			return a.Node - b.Node
		}
		return a.Count - b.Count
	})
	return dots
}

// grown adds random dots, right and wrong ones, to an empty set and to its model, and holds them against each other.
func grown(t *testing.T, r *rand.Rand, gap int) (plain, []api.Span) {
	t.Helper()
	p, s := plain{}, []api.Span(nil)
	nodes, far := 1+r.Intn(api.MaxNodes), 1+r.Intn(2*gap)
	for range r.Intn(120) {
		node := r.Intn(nodes)
		d := dot(node, p.base(node)+1+r.Intn(far)-r.Intn(3))
		want := api.OK
		switch {
		case d.Count < 1:
			want = api.ErrArg
		case d.Count > p.base(node)+gap:
			want = api.ErrGap
		default:
			p[d] = true
		}
		more, err := Add(s, d, gap)
		if err != want || err != api.OK && more != nil {
			t.Fatalf("Add(%v, %v, %d): %v, %d; want %d", s, d, gap, more, err, want)
		}
		if err == api.OK {
			s = more
		}
		if form := p.spans(); !slices.Equal(s, form) || Check(s, gap) != api.OK {
			t.Fatalf("gap %d, with %v: %v; want %v", gap, d, s, form)
		}
	}
	return p, s
}

// TestAgainstModel: P301 to P309 of random sets, against sets of single dots.
func TestAgainstModel(t *testing.T) {
	for seed := range int64(400) {
		r := rand.New(rand.NewSource(seed))
		gap := 1 + r.Intn(api.MaxGap)
		p, a := grown(t, r, gap)
		q, b := grown(t, r, gap)
		both := plain{}
		for _, one := range []plain{p, q} {
			for d := range one {
				both[d] = true
			}
		}
		union, err := Union(a, b, gap)
		if !slices.Equal(union, both.spans()) || err != api.OK {
			t.Fatalf("seed %d: Union(%v, %v, %d): %v, %d", seed, a, b, gap, union, err)
		}
		if Count(a) != len(p) || Count(union) != len(both) {
			t.Fatalf("seed %d: Count(%v): %d; Count(%v): %d", seed, a, Count(a), union, Count(union))
		}
		lacks := p.lacks(q)
		if got := slices.Collect(Missing(a, b)); !slices.Equal(got, lacks) {
			t.Fatalf("seed %d: Missing(%v, %v): %v; want %v", seed, a, b, got, lacks)
		}
		if Within(a, b) != (len(lacks) == 0) || !Within(a, union) || !Within(b, union) || Within(union, a) != (len(both) == len(p)) {
			t.Fatalf("seed %d: Within of %v, %v, %v", seed, a, b, union)
		}
		wantModelDots(t, p, a)
	}
}

// wantModelDots: s has the dots of p and no other, and Bases leaves those up to the bases.
func wantModelDots(t *testing.T, p plain, s []api.Span) {
	t.Helper()
	bases := Bases(s)
	for node := -1; node <= api.MaxNodes; node++ {
		base := p.base(node)
		for count := -1; count < base+api.MaxGap+3; count++ {
			d := dot(node, count)
			if Has(s, d) != p[d] {
				t.Fatalf("Has(%v, %v): %v", s, d, !p[d])
			}
			if Has(bases, d) != (count >= 1 && count <= base) {
				t.Fatalf("Bases(%v): %v", s, bases)
			}
		}
	}
}

// TestCheckAgainstWords: P301's six points, each said bit by bit, of lists at all the edges.
func TestCheckAgainstWords(t *testing.T) {
	r := rand.New(rand.NewSource(3))
	nodes := []int{-1, 0, 1, 2, 3, 4, 5, 6, 7, 8}
	bases := []int{-1 << 63, -1, 0, 1, 5, api.MaxCount - 64, api.MaxCount - 63, api.MaxCount - 2, api.MaxCount - 1, api.MaxCount, api.MaxCount + 1, 1<<63 - 1}
	for range 60000 {
		var s []api.Span
		next := 0
		for range 1 + r.Intn(3) {
			x := api.Span{Node: next, Base: bases[r.Intn(len(bases))]}
			if r.Intn(4) == 0 {
				x.Node = nodes[r.Intn(len(nodes))]
			}
			for range r.Intn(3) {
				x.Bits |= 1 << r.Intn(64)
			}
			s, next = append(s, x), x.Node+1
		}
		gap := 1 + r.Intn(api.MaxGap)
		want := api.OK
		if !inWords(s, gap) {
			want = api.ErrSet
		}
		if err := Check(s, gap); err != want {
			t.Fatalf("Check(%v, %d): %d; want %d", s, gap, err, want)
		}
	}
}

func inWords(s []api.Span, gap int) bool {
	for i, x := range s {
		if i > 0 && s[i-1].Node >= x.Node || x.Node < 0 || x.Node > api.MaxNodes-1 {
			return false
		}
		if x.Base < 0 || x.Base > api.MaxCount || x.Base == 0 && x.Bits == 0 {
			return false
		}
		for bit := range 64 {
			if x.Bits&(1<<bit) != 0 && (bit == 0 || bit >= gap || x.Base+1+bit > api.MaxCount) {
				return false
			}
		}
	}
	return true
}
