package sibs

import (
	"math/rand"
	"slices"
	"testing"

	"rookery/api"
	"rookery/dotset"
)

func plainSame(a, b api.Write) bool {
	if a.Dot.Node != b.Dot.Node || a.Dot.Count != b.Dot.Count || a.Key != b.Key || a.Dead != b.Dead || len(a.Ctx) != len(b.Ctx) {
		return false
	}
	for i, x := range a.Ctx {
		if x.Node != b.Ctx[i].Node || x.Base != b.Ctx[i].Base || x.Bits != b.Ctx[i].Bits {
			return false
		}
	}
	return string(a.Value) == string(b.Value)
}

func plainCovers(t, w api.Write) bool {
	if t.Key != w.Key || w.Dot.Count < 1 || dotset.Check(t.Ctx, api.MaxGap) != api.OK {
		return false
	}
	for _, x := range t.Ctx {
		if beyond := w.Dot.Count - x.Base - 1; x.Node == w.Dot.Node && (beyond < 0 || beyond < 64 && x.Bits&(1<<beyond) != 0) {
			return true
		}
	}
	return false
}

// above: the dot is above the other one.
func above(a, b api.Dot) bool { return a.Node > b.Node || a.Node == b.Node && a.Count > b.Count }

func plainValid(set []api.Write, gap int) bool {
	if gap < 1 || gap > api.MaxGap {
		return false
	}
	for i, w := range set {
		if w.Key != set[0].Key || w.Key == "" || len(w.Key) > api.MaxKey || len(w.Value) > api.MaxValue || w.Dead && len(w.Value) != 0 {
			return false
		}
		if w.Dot.Node < 0 || w.Dot.Node > 7 || w.Dot.Count < 1 || w.Dot.Count > api.MaxCount || dotset.Check(w.Ctx, gap) != api.OK {
			return false
		}
		if i > 0 && !above(w.Dot, set[i-1].Dot) {
			return false
		}
		for _, t := range set {
			if plainCovers(t, w) {
				return false
			}
		}
	}
	return true
}

func plainMerge(set []api.Write, w api.Write, limit int) ([]api.Write, api.Errno) {
	for _, t := range set {
		if t.Key != w.Key {
			return nil, api.ErrKey
		}
	}
	var left, out []api.Write
	covered, placed := false, false
	for _, t := range set {
		if t.Dot == w.Dot {
			return set, api.OK
		}
		if !plainCovers(w, t) {
			left = append(left, t)
			covered = covered || plainCovers(t, w)
		}
	}
	for _, t := range left {
		if !covered && !placed && above(t.Dot, w.Dot) {
			out, placed = append(out, w), true
		}
		out = append(out, t)
	}
	if !covered && !placed {
		out = append(out, w)
	}
	if len(out) > limit {
		return nil, api.ErrSiblings
	}
	return out, api.OK
}

// plainMet: of each dot the first write, of all keys or of the first one's alone, by rising dots.
func plainMet(in [][]api.Write, oneKey bool) []api.Write {
	var met []api.Write
	for _, set := range in {
	next:
		for _, w := range set {
			if oneKey && len(met) > 0 && met[0].Key != w.Key {
				continue
			}
			for _, t := range met {
				if t.Dot == w.Dot {
					continue next
				}
			}
			met = append(met, w)
		}
	}
	for i := range met {
		for j := i; j > 0 && above(met[j-1].Dot, met[j].Dot); j-- {
			met[j-1], met[j] = met[j], met[j-1]
		}
	}
	return met
}

func plainGather(in [][]api.Write) []api.Write {
	var out []api.Write
	met := plainMet(in, true)
	for i, w := range met {
		covered := false
		for j, t := range met {
			covered = covered || i != j && plainCovers(t, w)
		}
		if !covered {
			out = append(out, w)
		}
	}
	return out
}

// plain: a set of dots as nothing but its dots.
type plain map[api.Dot]bool

func (p plain) and(s []api.Span) plain {
	q := plain{}
	for d := range p {
		q[d] = true
	}
	for d := range dotset.Missing(s, nil) {
		q[d] = true
	}
	return q
}

func (p plain) base(node int) int {
	c := 0
	for p[dot(node, c+1)] {
		c++
	}
	return c
}

func plainToken(in [][]api.Write, b [][]api.Span, gap int) (plain, []api.Write) {
	token := plain{}
	for _, s := range b {
		if dotset.Check(s, gap) == api.OK {
			token = token.and(s)
		}
	}
	var out []api.Write
	for _, w := range plainMet(in, false) {
		d := w.Dot
		if dotset.Check(w.Ctx, gap) == api.OK && d.Node >= 0 && d.Node <= 7 && d.Count >= 1 && d.Count <= api.MaxCount {
			if more := token.and(w.Ctx); d.Count <= more.base(d.Node)+gap {
				more[d] = true
				token = more
				continue
			}
		}
		out = append(out, w)
	}
	return token, out
}

// chance makes small writes, right and wrong ones, that meet one another often.
type chance struct{ *rand.Rand }

func (r chance) oneIn(n int) bool { return r.Intn(n) == 0 }

func (r chance) spans(gap int) []api.Span {
	var s []api.Span
	for node := range 3 {
		if r.oneIn(2) {
			x := sp(node, r.Intn(5))
			for range r.Intn(3) {
				x.Bits |= 1 << (1 + r.Intn(gap+1))
			}
			s = append(s, x)
		}
	}
	if r.oneIn(20) {
		slices.Reverse(s)
	}
	if dotset.Check(s, gap) != api.OK && !r.oneIn(8) {
		return nil
	}
	return s
}

func (r chance) write(gap int) api.Write {
	w := api.Write{Dot: dot(r.Intn(3), 1+r.Intn(6)), Key: "k", Ctx: r.spans(gap), Value: make([]byte, r.Intn(3))}
	r.Read(w.Value)
	switch r.Intn(25) {
	case 0:
		w.Dot = noDots()[r.Intn(len(noDots()))]
	case 1:
		w.Key = "l"
	case 2:
		w.Dead = true
	case 3:
		w.Dead, w.Value = true, nil
	case 4:
		w.Ctx = noSets()[r.Intn(len(noSets()))]
	case 5:
		w.Value = make([]byte, api.MaxValue+r.Intn(2))
	}
	return w
}

func (r chance) set(gap int) []api.Write {
	var set []api.Write
	for range r.Intn(6) {
		set = append(set, r.write(gap))
	}
	if r.oneIn(2) {
		return plainGather(sets(set))
	}
	return set
}

// TestAgainstModel: P501 to P506 of random lists, against their words said plainly.
func TestAgainstModel(t *testing.T) {
	valid := 0
	for seed := range int64(30000) {
		r := chance{rand.New(rand.NewSource(seed))}
		gap := 1 + r.Intn(6)
		a, b := r.write(gap), r.write(gap)
		if r.oneIn(3) {
			b = a
			b.Value, b.Ctx = append([]byte{}, a.Value...), append([]api.Span{}, a.Ctx...)
		}
		if Covers(a, b) != plainCovers(a, b) || Same(a, b) != plainSame(a, b) {
			t.Fatalf("seed %d: %v, %v: Covers %v, Same %v", seed, a, b, Covers(a, b), Same(a, b))
		}
		set := r.set(gap)
		if Valid(set, gap) != plainValid(set, gap) {
			t.Fatalf("seed %d: Valid(%v, %d): %v", seed, set, gap, Valid(set, gap))
		}
		if len(set) > 1 && Valid(set, gap) {
			valid++
		}
		limit := r.Intn(7) - 1
		got, err := Merge(set, a, limit)
		if want, wantE := plainMerge(set, a, limit); err != wantE || !slices.EqualFunc(got, want, plainSame) {
			t.Fatalf("seed %d: Merge(%v, %v, %d): %v, %d; want %v, %d", seed, set, a, limit, got, err, want, wantE)
		}
		in := sets(set, r.set(gap), r.set(gap))[:r.Intn(4)]
		if got, want := Gather(in...), plainGather(in); !slices.EqualFunc(got, want, plainSame) {
			t.Fatalf("seed %d: Gather(%v): %v; want %v", seed, in, got, want)
		}
		wantPlainToken(t, in, bases(r.spans(gap), r.spans(gap))[:r.Intn(3)], gap-r.Intn(2))
	}
	if valid < 1000 {
		t.Errorf("%d lists of several siblings alone", valid)
	}
}

func wantPlainToken(t *testing.T, in [][]api.Write, b [][]api.Span, gap int) {
	t.Helper()
	token, out := Token(in, b, gap)
	if gap < 1 {
		if len(token) != 0 || !slices.EqualFunc(out, plainMet(in, false), plainSame) {
			t.Fatalf("Token(%v, %v, %d): %v, %v", in, b, gap, token, out)
		}
		return
	}
	want, wantOut := plainToken(in, b, gap)
	n := 0
	for d := range dotset.Missing(token, nil) {
		n++
		if !want[d] {
			t.Fatalf("Token(%v, %v, %d): %v has %v", in, b, gap, token, d)
		}
	}
	if n != len(want) || dotset.Check(token, gap) != api.OK {
		t.Fatalf("Token(%v, %v, %d): %v; want %v", in, b, gap, token, want)
	}
	if !slices.EqualFunc(out, wantOut, plainSame) {
		t.Fatalf("Token(%v, %v, %d): %v is left out; want %v", in, b, gap, out, wantOut)
	}
	for _, w := range out {
		if rightFor(w, gap) && slices.ContainsFunc(b, func(s []api.Span) bool { return near(w.Dot, s, gap) }) {
			t.Fatalf("Token(%v, %v, %d): %v is left out; a base is near to it", in, b, gap, w)
		}
	}
}

// rightFor: the write's dot is one, and its context one for the gap.
func rightFor(w api.Write, gap int) bool {
	return dotset.Check(w.Ctx, gap) == api.OK && !slices.Contains(noDots(), w.Dot)
}

// near: the dot lies no more than gap above its node's base in the set.
func near(d api.Dot, s []api.Span, gap int) bool {
	return dotset.Check(s, gap) == api.OK && d.Count <= plain{}.and(s).base(d.Node)+gap
}

// TestP504P505MergedInAnyOrder: siblings that were merged one by one are those that were gathered, where contexts are closed as tokens make them (P508); and they are valid.
func TestP504P505MergedInAnyOrder(t *testing.T) {
	for seed := range int64(300) {
		r := chance{rand.New(rand.NewSource(seed))}
		s := newStory(3)
		for range 25 {
			s.step(r)
		}
		all := s.writes()
		want := Gather(all)
		for range 5 {
			r.Shuffle(len(all), func(i, j int) { all[i], all[j] = all[j], all[i] })
			var set []api.Write
			for _, w := range all {
				set, _ = Merge(set, w, len(all))
			}
			if !slices.EqualFunc(set, want, plainSame) || !Valid(set, api.MaxGap) {
				t.Fatalf("seed %d: %v; want %v", seed, set, want)
			}
		}
	}
}
