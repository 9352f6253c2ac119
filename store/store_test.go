package store

import (
	"math"
	"strings"
	"testing"

	"rookery/api"
)

// TestP905Order: where several errors apply, the first one named.
func TestP905Order(t *testing.T) {
	long, longer := strings.Repeat("k", 17), strings.Repeat("v", 65)
	s, d := fresh(t, three(), 1)
	for _, row := range []struct {
		c    change
		want api.Errno
	}{
		{mint("", true, longer, sp(9, 1)), api.ErrKey}, {mint(long, true, longer, sp(9, 1)), api.ErrKey}, {mint("k", true, longer, sp(9, 1)), api.ErrLong}, {mint("k", false, longer), api.ErrLong}, {mint("k", true, "v", sp(9, 1)), api.ErrArg}, {mint("k", false, "v", sp(9, 1)), api.ErrSet}, {mint("k", false, "v", sp(1, 1)), api.ErrWrite}, {mint("k", false, "v", sp(1, 0, 2), sp(1, 1)), api.ErrSet},
	} {
		wantNo(t, s, d, row.c, row.want)
	}
	x, e := fresh(t, three(), 0)
	wantNo(t, x, e, mint("", true, longer, sp(9, 1)), api.ErrKey)
	wantNo(t, x, e, mint("k", true, longer, sp(9, 1)), api.ErrLong)
	wantNo(t, x, e, mint("k", true, "v", sp(9, 1)), api.ErrArg)
	wantNo(t, x, e, mint("k", false, "v", sp(9, 1)), api.ErrMine)
	wantNo(t, x, e, mint("k", false, "v"), api.ErrMine)
}

// TestP905Sets: a context of the config at its bounds, and past them.
func TestP905Sets(t *testing.T) {
	for _, row := range []struct {
		ctx []api.Span
		ok  bool
	}{
		{nil, true}, {spans(sp(0, 100)), true}, {spans(sp(0, 101)), false}, {spans(sp(0, 96, 100)), true}, {spans(sp(0, 97, 101)), false}, {spans(sp(0, 98, 100)), true}, {spans(sp(0, 98, 100, 101)), false}, {spans(sp(0, 1, 5)), true}, {spans(sp(0, 1, 6)), false}, {spans(sp(2, 1)), true}, {spans(sp(3, 1)), false}, {spans(sp(-1, 1)), false}, {spans(sp(8, 1)), false}, {spans(sp(0, 1), sp(2, 1)), true}, {spans(sp(2, 1), sp(0, 1)), false}, {spans(sp(0, 1), sp(0, 1)), false}, {spans(api.Span{Node: 0, Base: 0}), false}, {spans(api.Span{Node: 0, Base: 1, Bits: 1}), false}, {spans(sp(0, -1)), false}, {spans(sp(0, math.MaxInt)), false}, {spans(sp(0, math.MinInt)), false}, {spans(api.Span{Node: math.MaxInt, Base: 1}), false}, {spans(api.Span{Node: 0, Base: math.MaxInt, Bits: math.MaxUint64}), false}, {spans(sp(0, 1), sp(3, 1)), false}, {spans(sp(0, 101), sp(2, 1)), false},
	} {
		s, d := fresh(t, three(), 1)
		w := wr(0, 6, row.ctx...)
		if len(row.ctx) > 0 && row.ctx[0].Node == 0 {
			w.Dot = dot(2, 2)
		}
		if row.ok {
			wantDone(t, s, d, mint("k", false, "v", row.ctx...), wr(1, 1, row.ctx...), 9)
			continue
		}
		wantNo(t, s, d, mint("k", false, "v", row.ctx...), api.ErrSet)
		wantNo(t, s, d, merge(w), api.ErrWrite)
		wantNo(t, s, d, take(0, row.ctx), api.ErrSet)
		wantNo(t, s, d, take(0, spans(sp(0, 6), sp(2, 2)), w), api.ErrWrite)
	}
}

// TestP905Bounds: what is at a limit is well.
func TestP905Bounds(t *testing.T) {
	s, d := fresh(t, three(), 1)
	key, value := strings.Repeat("k", 16), strings.Repeat("v", 64)
	wantDone(t, s, d, mint(key, false, value), of(key, with(value, wr(1, 1))), 9)
	wantDone(t, s, d, mint("\x00", true, ""), of("\x00", gone(wr(1, 2))), 9)
	wantWrites(t, "Read", s.Read(key), of(key, with(value, wr(1, 1))))
	wantWrites(t, "Read", s.Read("\x00"), of("\x00", gone(wr(1, 2))))
	wantDone(t, s, d, mint(key, false, ""), of(key, with("", wr(1, 3))), 9)
}

// TestP905Dots: one above the greatest of the node's own that the clock has, in each range by itself.
func TestP905Dots(t *testing.T) {
	s, d := fresh(t, five(), 2)
	wantDone(t, s, d, mint("k", false, "v"), wr(2, 1), 9)
	wantDone(t, s, d, mint("p", false, "v"), of("p", wr(2, 1)), 9)
	wantDone(t, s, d, mint("a", false, "v"), of("a", wr(2, 2)), 9)
	wantDone(t, s, d, merge(wr(4, 5)), true, 9)
	wantDone(t, s, d, mint("a", false, "v"), of("a", wr(2, 3)), 9)
	// its own that came from others count too, those beyond a hole as well
	wantDone(t, s, d, merge(of("p", wr(2, 5))), true, 9)
	wantDone(t, s, d, mint("p", false, "v"), of("p", wr(2, 6)), 9)
	wantClock(t, "a hole", s, 2, sp(2, 1, 5, 6))
	wantDone(t, s, d, take(1, spans(sp(2, 20))), 0, 5)
	wantDone(t, s, d, mint("a", false, "v"), of("a", wr(2, 21)), 9)
	x := opened(t, d, five(), 2)
	wantDone(t, x, d, mint("p", false, "w", sp(2, 1, 5, 6)), of("p", with("w", wr(2, 7, sp(2, 1, 5, 6)))), 9)
}

// TestP905Count: ErrCount comes ahead of ErrGap, that of ErrWrite, that of ErrKeys, that of ErrSiblings.
func TestP905Count(t *testing.T) {
	s, d := fresh(t, three(), 1)
	wantDone(t, s, d, take(0, spans(sp(1, 99))), 0, 5)
	wantDone(t, s, d, mint("k", false, "v"), wr(1, 100), 9)
	wantNo(t, s, d, mint("k", false, "v"), api.ErrCount)
	wantNo(t, s, d, mint("k", false, "v", sp(0, 101)), api.ErrSet)
	wantNo(t, opened(t, d, three(), 1), d, mint("k", false, "v"), api.ErrCount)

	s, d = fresh(t, three(), 1)
	wantDone(t, s, d, take(0, spans(sp(1, 96, 100))), 0, 5)
	wantNo(t, s, d, mint("k", false, "v"), api.ErrCount)

	s, d = fresh(t, three(), 1)
	wantDone(t, s, d, take(0, spans(sp(0, 4), sp(1, 1, 5)), of("a", wr(0, 1)), of("b", wr(0, 2)), of("b", wr(0, 3))), 3, 13)
	wantNo(t, s, d, mint("k", false, "v", sp(1, 6)), api.ErrGap)
	wantNo(t, s, d, mint("k", false, "v"), api.ErrGap)
	wantDone(t, s, d, take(0, spans(sp(1, 2))), 0, 5)
	wantNo(t, s, d, mint("k", false, "v", sp(1, 6)), api.ErrWrite)
	wantNo(t, s, d, mint("b", false, "v", sp(1, 6)), api.ErrWrite)
	wantNo(t, s, d, mint("k", false, "v"), api.ErrKeys)
	wantNo(t, s, d, mint("b", false, "v"), api.ErrSiblings)
	wantDone(t, s, d, mint("a", false, "v", sp(1, 2, 5)), of("a", wr(1, 6, sp(1, 2, 5))), 9)
	wantClock(t, "Mint beyond a hole", s, 0, sp(0, 4), sp(1, 2, 5, 6))
}

// TestP905Covered: a stored write that covers the new dot: the siblings are as they were, and their page is not written.
func TestP905Covered(t *testing.T) {
	s, d := fresh(t, three(), 1)
	ahead := wr(0, 1, sp(1, 2))
	wantDone(t, s, d, merge(ahead), true, 9)
	wantDone(t, s, d, mint("k", false, "v"), wr(1, 1), 5)
	wantWrites(t, "Read", s.Read("k"), ahead)
	wantClock(t, "Mint", s, 0, sp(0, 1), sp(1, 1))
	// each covers the other: the later one is left
	wantDone(t, s, d, mint("k", false, "v", sp(0, 1)), wr(1, 2, sp(0, 1)), 9)
	wantWrites(t, "Read", s.Read("k"), wr(1, 2, sp(0, 1)))
}

// TestP906Right: each way of a write to be none.
func TestP906Right(t *testing.T) {
	wrong := []api.Write{
		{}, of("", wr(2, 1)), of(strings.Repeat("k", 17), wr(2, 1)), with(strings.Repeat("v", 65), wr(2, 1)), {Dot: dot(2, 1), Key: "k", Dead: true, Value: []byte("v")}, wr(-1, 1), wr(3, 1), wr(8, 1), wr(math.MaxInt, 1), wr(math.MinInt, 1), wr(2, 0), wr(2, -1), wr(2, 101), wr(2, math.MaxInt), wr(2, math.MinInt), wr(2, 1, sp(2, 1)), wr(2, 2, sp(2, 0, 2)), wr(2, 1, sp(2, 9)), wr(2, 1, sp(0, 101)), wr(2, 1, sp(3, 1)),
	}
	for me := range 3 {
		s, d := fresh(t, three(), me)
		for _, w := range wrong {
			wantNo(t, s, d, merge(w), api.ErrWrite)
			for owner := -1; owner < 4; owner++ {
				wantNo(t, s, d, keep(owner, w), api.ErrWrite)
			}
			if me > 0 {
				wantNo(t, s, d, take(0, spans(sp(2, 9)), w), api.ErrWrite)
			}
		}
	}
	long := of(strings.Repeat("k", 16), with(strings.Repeat("v", 64), wr(2, 1)))
	for _, w := range []api.Write{long, gone(wr(2, 1)), with("", wr(2, 1)), wr(0, 4), wr(2, 2, sp(2, 1, 3)), wr(2, 1, sp(0, 100), sp(1, 1, 5), sp(2, 0, 2))} {
		s, d := fresh(t, three(), 1)
		wantDone(t, s, d, merge(w), true, 9)
		wantWrites(t, "Read", s.Read(w.Key), w)
		s, d = fresh(t, three(), 0)
		wantDone(t, s, d, keep(2, w), true, 5)
		wantWrites(t, "Held", s.Held(2, w.Key), w)
	}
}

// TestP906Order: ErrWrite, ErrMine, known, ErrGap, ErrKeys, ErrSiblings.
func TestP906Order(t *testing.T) {
	x, e := fresh(t, three(), 0)
	wantNo(t, x, e, merge(wr(2, 50)), api.ErrMine)
	wantNo(t, x, e, merge(wr(2, 101)), api.ErrWrite)
	s, d := fresh(t, three(), 1)
	full := list(of("a", wr(0, 1)), of("a", wr(0, 2)), of("b", wr(0, 3)), of("b", wr(0, 4)))
	wantDone(t, s, d, take(0, spans(sp(0, 4), sp(2, 10, 13)), full...), 4, 13)
	for _, count := range []int{15, 16, 100} {
		wantNo(t, s, d, merge(wr(2, count)), api.ErrGap)
		wantNo(t, s, d, merge(of("a", wr(2, count))), api.ErrGap)
	}
	wantNo(t, s, d, merge(of("a", wr(1, 5))), api.ErrGap)
	wantNo(t, s, d, merge(wr(2, 14)), api.ErrKeys)
	wantNo(t, s, d, merge(wr(1, 4)), api.ErrKeys)
	wantNo(t, s, d, merge(of("a", wr(2, 14))), api.ErrSiblings)
	wantNo(t, s, d, merge(of("b", wr(1, 4))), api.ErrSiblings)
	// what is known is so, whatever else it says
	for _, c := range []change{merge(wr(2, 13)), merge(wr(2, 10)), merge(of("a", wr(2, 1))), merge(of("c", wr(0, 4)))} {
		wantDone(t, s, d, c, false, 0)
	}
	wantNo(t, s, d, merge(of("", wr(0, 4))), api.ErrWrite)
	wantDone(t, s, d, merge(of("a", wr(2, 14, sp(0, 1)))), true, 9)
	wantState(t, "in the place of one", s, state(1, clocks(cl(0, sp(0, 4), sp(2, 10, 13, 14))), nil, list(full[1], of("a", wr(2, 14, sp(0, 1)))), list(full[2:]...)))
}

// TestP906Keys: as many keys as may be, and one more.
func TestP906Keys(t *testing.T) {
	s, d := fresh(t, five(), 2)
	wantDone(t, s, d, mint("p", true, ""), of("p", gone(wr(2, 1))), 9)
	for i, key := range []string{"a", "d", "i", "j", "k"} {
		wantDone(t, s, d, mint(key, true, ""), of(key, gone(wr(2, 1+i))), 9)
	}
	for _, key := range []string{"l", "o"} {
		wantNo(t, s, d, merge(of(key, wr(4, 1))), api.ErrKeys)
		wantNo(t, s, d, mint(key, false, ""), api.ErrKeys)
		wantNo(t, s, d, take(1, spans(sp(4, 1)), of(key, wr(4, 1))), api.ErrKeys)
	}
	// a dead key is a key; hints are none
	wantDone(t, s, d, merge(wr(4, 1)), true, 9)
	wantDone(t, s, d, keep(1, of("b", wr(1, 1))), true, 5)
}

// TestP906Changes: page 0 always, the key's page where its siblings are not as they were.
func TestP906Changes(t *testing.T) {
	s, d := fresh(t, three(), 1)
	newer := wr(0, 2, sp(0, 1), sp(2, 1))
	wantDone(t, s, d, merge(newer), true, 9)
	wantDone(t, s, d, merge(wr(0, 1)), true, 5)
	wantDone(t, s, d, merge(with("x", wr(2, 1))), true, 5)
	wantWrites(t, "Read", s.Read("k"), newer)
	wantClock(t, "covered ones are known", s, 0, sp(0, 2), sp(2, 1))
	wantPages(t, "on the disk", d, clockChange(t, 1, cl(0, sp(0, 2), sp(2, 1))), keyChange(t, 1, newer))
	// one that is covered, and covers another: that one goes
	wantDone(t, s, d, merge(wr(1, 1)), true, 9)
	wide := wr(2, 3, sp(0, 2), sp(1, 2))
	wantDone(t, s, d, merge(wide), true, 9)
	wantDone(t, s, d, merge(wr(2, 4)), true, 9)
	wantDone(t, s, d, merge(wr(1, 2, sp(2, 2, 4))), true, 9)
	wantWrites(t, "Read", s.Read("k"), wide)
}

func TestP907Order(t *testing.T) {
	s, d := fresh(t, five(), 2)
	bad := list(api.Write{}, wr(1, 1))
	for _, rng := range []int{-1, 4, 16, math.MaxInt, math.MinInt} {
		wantNo(t, s, d, take(rng, spans(sp(9, 1)), bad...), api.ErrRange)
	}
	for _, rng := range []int{0, 3} {
		wantNo(t, s, d, take(rng, spans(sp(9, 1)), bad...), api.ErrMine)
		wantNo(t, s, d, take(rng, nil), api.ErrMine)
	}
	wantNo(t, s, d, take(1, spans(sp(5, 1)), bad...), api.ErrSet)
	wantNo(t, s, d, take(1, spans(sp(1, 1, 8)), bad...), api.ErrSet)
	wantNo(t, s, d, take(1, spans(sp(1, 1001))), api.ErrSet)
	wantNo(t, s, d, take(1, spans(sp(1, 9)), bad...), api.ErrWrite)
	set := spans(sp(0, 2), sp(1, 3, 5))
	for _, l := range [][]api.Write{
		list(wr(1, 4)), list(wr(1, 6)), list(wr(2, 1)), list(of("p", wr(1, 1))), list(of("g", wr(1, 1))), list(wr(1, 1), wr(1, 1)), list(wr(1, 2), wr(1, 1)), list(wr(1, 1), wr(0, 2)), list(wr(1, 1), of("a", wr(1, 1))), list(wr(0, 1), wr(1, 1), wr(1, 5), wr(1, 3)), list(wr(0, 1), wr(1, 1001)),
	} {
		wantNo(t, s, d, take(1, set, l...), api.ErrWrite)
	}
	// writes that are known are looked at likewise
	wantDone(t, s, d, take(1, set), 0, 5)
	for _, l := range [][]api.Write{list(wr(1, 4)), list(wr(1, 1), wr(1, 1)), list(of("p", wr(1, 1))), list(of("", wr(1, 1))), list(wr(1, 2), wr(0, 1))} {
		wantNo(t, s, d, take(1, set, l...), api.ErrWrite)
	}
	wantDone(t, s, d, take(1, set, wr(0, 1), wr(0, 2), wr(1, 1), wr(1, 5)), 0, 0)
}

// TestP907News: those that the clock lacks are merged, the others left out; the clock is the union.
func TestP907News(t *testing.T) {
	s, d := fresh(t, five(), 2)
	wantDone(t, s, d, mint("k", false, "v"), wr(2, 1), 9)
	wantDone(t, s, d, merge(of("a", wr(4, 2))), true, 9)
	set := spans(sp(0, 1), sp(2, 0, 2), sp(4, 3, 5))
	news := list(of("j", wr(0, 1)), wr(2, 2, sp(2, 1)), wr(4, 2), of("a", wr(4, 3)), wr(4, 5))
	wantDone(t, s, d, take(1, set, news...), 4, 17)
	wantState(t, "Take", s, state(1, clocks(cl(1, sp(0, 1), sp(2, 2), sp(4, 3, 5)), cl(2)), nil, list(of("a", wr(4, 2)), news[3]), list(news[0]), list(news[1], news[4])))
	wantPages(t, "Take", d, clockChange(t, 1, cl(1, sp(0, 1), sp(2, 2), sp(4, 3, 5))), keyChange(t, 1, news[1], news[4]), keyChange(t, 2, of("a", wr(4, 2)), news[3]), keyChange(t, 3, news[0]))
	wantDone(t, s, d, take(1, set, news...), 0, 0)
	// beyond the gap of the own clock: a shipment has no ErrGap
	wantDone(t, s, d, take(1, spans(sp(1, 900, 906)), of("j", wr(1, 906, sp(0, 1)))), 1, 9)
	wantClock(t, "a far one", s, 1, sp(0, 1), sp(1, 900, 906), sp(2, 2), sp(4, 3, 5))
	wantWrites(t, "Read", s.Read("j"), of("j", wr(1, 906, sp(0, 1))))
}

// TestP907Changes: page 0 where the clock is not as it was, each key's page where its siblings are not.
func TestP907Changes(t *testing.T) {
	s, d := fresh(t, three(), 1)
	wantDone(t, s, d, take(0, nil), 0, 0)
	cover := wr(1, 1, sp(0, 4), sp(2, 2))
	wantDone(t, s, d, take(0, spans(sp(1, 1)), cover), 1, 9)
	// covered ones, and one that is covered by another of the shipment: page 0 alone
	wantDone(t, s, d, take(0, spans(sp(0, 2)), wr(0, 1), wr(0, 2)), 2, 5)
	wantDone(t, s, d, take(0, spans(sp(0, 6), sp(2, 0, 2)), wr(0, 6), wr(2, 2, sp(0, 6))), 2, 5)
	wantWrites(t, "Read", s.Read("k"), cover)
	wantDone(t, s, d, take(0, spans(sp(0, 6))), 0, 0)
	wantDone(t, s, d, take(0, spans(sp(2, 1))), 0, 5)
	wantClock(t, "the hole is closed", s, 0, sp(0, 6), sp(1, 1), sp(2, 2))
}

// TestP907Limits: those of the outcome, not of what lies between.
func TestP907Limits(t *testing.T) {
	s, d := fresh(t, three(), 1)
	four := list(wr(0, 1), wr(0, 2), wr(0, 3), wr(0, 4))
	wantNo(t, s, d, take(0, spans(sp(0, 4)), four[:3]...), api.ErrSiblings)
	wantNo(t, s, d, take(0, spans(sp(0, 4)), append(four, of("a", wr(1, 1)))...), api.ErrWrite)
	wantNo(t, s, d, take(0, spans(sp(0, 4), sp(1, 3)), append(four, of("a", wr(1, 1)), of("b", wr(1, 2)))...), api.ErrKeys)
	wantNo(t, s, d, take(0, spans(sp(0, 4), sp(1, 3)), append(four, of("a", wr(1, 1)))...), api.ErrSiblings)
	wantNo(t, s, d, take(0, spans(sp(0, 4), sp(1, 3)), append(four, wr(1, 1, sp(0, 2)))...), api.ErrSiblings)
	wantDone(t, s, d, take(0, spans(sp(0, 4), sp(1, 3)), append(four, wr(1, 1, sp(0, 3)))...), 5, 9)
	wantWrites(t, "Read", s.Read("k"), wr(0, 4), wr(1, 1, sp(0, 3)))
	wantDone(t, s, d, take(0, spans(sp(1, 4)), of("z", wr(1, 4))), 1, 9)
	wantNo(t, s, d, take(0, spans(sp(1, 5)), of("y", wr(1, 5))), api.ErrKeys)
	wantNo(t, s, d, take(0, spans(sp(2, 3)), of("y", wr(2, 1)), of("y", wr(2, 2)), of("y", wr(2, 3))), api.ErrKeys)
	wantDone(t, s, d, take(0, spans(sp(1, 5)), of("z", wr(1, 5))), 1, 9)
	wantNo(t, s, d, take(0, spans(sp(1, 6)), of("z", wr(1, 6))), api.ErrSiblings)
}

// TestP907OneBehindTheOther: by their dots, as each meets what the ones ahead have left.
func TestP907OneBehindTheOther(t *testing.T) {
	s, d := fresh(t, three(), 1)
	// each covers the other: the later one is left
	wantDone(t, s, d, take(0, spans(sp(0, 1), sp(2, 1)), wr(0, 1, sp(2, 1)), wr(2, 1, sp(0, 1))), 2, 9)
	wantWrites(t, "Read", s.Read("k"), wr(2, 1, sp(0, 1)))
	// a covers b, b covers c, c covers a: a, then b is covered by it, then c in its place
	s, d = fresh(t, three(), 1)
	a, b, c := wr(0, 1, sp(1, 1)), wr(1, 1, sp(2, 1)), wr(2, 1, sp(0, 1))
	wantDone(t, s, d, take(0, spans(sp(0, 1), sp(1, 1), sp(2, 1)), a, b, c), 3, 9)
	wantWrites(t, "Read", s.Read("k"), c)
}

// TestP907Pages: new keys get their pages in the order in which their first write is merged.
func TestP907Pages(t *testing.T) {
	s, d := fresh(t, five(), 2)
	wantDone(t, s, d, take(1, spans(sp(0, 1)), of("l", wr(0, 1))), 1, 9)
	news := list(of("o", wr(1, 1)), of("l", wr(1, 2)), of("a", wr(1, 3)), of("o", wr(1, 4, sp(1, 1))), of("j", wr(4, 7)), of("a", wr(4, 8)))
	wantDone(t, s, d, take(1, spans(sp(1, 4), sp(4, 9)), news...), 6, 21)
	wantPages(t, "Take", d, clockChange(t, 1, cl(1, sp(0, 1), sp(1, 4), sp(4, 9))), keyChange(t, 1, of("l", wr(0, 1)), news[1]), keyChange(t, 2, news[3]), keyChange(t, 3, news[2], news[5]), keyChange(t, 4, news[4]))
}

func TestP908Order(t *testing.T) {
	s, d := fresh(t, five(), 2)
	g := of("g", wr(4, 1))
	for _, owner := range []int{-1, 5, 8, 2, math.MaxInt, math.MinInt} {
		wantNo(t, s, d, keep(owner, of("", g)), api.ErrWrite)
		wantNo(t, s, d, keep(owner, g), api.ErrNode)
		wantNo(t, s, d, keep(owner, wr(4, 1)), api.ErrNode)
	}
	for _, owner := range []int{0, 4} {
		wantNo(t, s, d, keep(owner, g), api.ErrMine)
		wantNo(t, s, d, keep(owner, wr(4, 1)), api.ErrMine)
		wantNo(t, s, d, keep(owner, of("p", wr(4, 1))), api.ErrMine)
	}
	wantNo(t, s, d, keep(1, wr(4, 1)), api.ErrMine)
	for i, owner := range []int{1, 3, 1, 3} {
		wantDone(t, s, d, keep(owner, of("g", wr(4, 1+i))), true, 5)
	}
	wantNo(t, s, d, keep(1, of("g", wr(4, 9))), api.ErrHints)
	wantNo(t, s, d, keep(0, of("g", wr(4, 9))), api.ErrMine)
	wantDone(t, s, d, keep(1, with("other", g)), false, 0)
	wantWrites(t, "Held", s.Held(1, "g"), g, of("g", wr(4, 3)))
}

// TestP908Names: hints differ by owner, key or dot; a hint is no sibling, and in no clock.
func TestP908Names(t *testing.T) {
	s, d := fresh(t, five(), 2)
	for _, c := range []change{keep(1, of("g", wr(4, 1))), keep(3, of("g", wr(4, 1))), keep(1, of("h", wr(4, 1))), keep(1, of("g", wr(3, 1)))} {
		wantDone(t, s, d, c, true, 5)
		wantDone(t, s, d, c, false, 0)
	}
	g := of("g", wr(4, 1))
	all := hints(hint(1, of("g", wr(3, 1))), hint(1, g), hint(1, of("h", wr(4, 1))), hint(3, g))
	wantState(t, "four", s, state(1, clocks(cl(1), cl(2)), all))
	wantWrites(t, "Read", s.Read("g"))
	wantClock(t, "of a hint's range", s, 0)
	wantState(t, "Open", opened(t, d, five(), 2), state(2, clocks(cl(1), cl(2)), all))
}

func TestP909Unhint(t *testing.T) {
	s, d := fresh(t, five(), 2)
	g := of("g", wr(4, 1))
	wantDone(t, s, d, keep(1, g), true, 5)
	wantDone(t, s, d, keep(3, g), true, 5)
	for _, c := range []change{giveUp(1, "g", dot(4, 2)), giveUp(1, "g", dot(3, 1)), giveUp(1, "h", dot(4, 1)), giveUp(1, "", dot(4, 1)), giveUp(2, "g", dot(4, 1)), giveUp(-1, "g", dot(4, 1)), giveUp(0, "", api.Dot{}), giveUp(math.MaxInt, strings.Repeat("x", 1000), dot(math.MinInt, math.MaxInt))} {
		wantDone(t, s, d, c, false, 0)
	}
	wantDone(t, s, d, giveUp(1, "g", dot(4, 1)), true, 1)
	wantDone(t, s, d, giveUp(1, "g", dot(4, 1)), false, 0)
	wantState(t, "one is left", s, state(1, clocks(cl(1), cl(2)), hints(hint(3, g))))
	wantDone(t, s, d, giveUp(3, "g", dot(4, 1)), true, 1)
	wantState(t, "Open", opened(t, d, five(), 2), state(2, clocks(cl(1), cl(2)), nil))
	// what was given up may be kept again
	wantDone(t, s, d, keep(1, g), true, 5)
}

// TestErrorsOfTheCommit: at the page file's last number each call that would commit is refused, and nothing has changed.
func TestErrorsOfTheCommit(t *testing.T) {
	d := diskWith(t, clockChange(t, 1, cl(1, sp(2, 1))), keyChange(t, 1, wr(2, 1)), hintChange(t, 65, 3, of("g", wr(4, 1))))
	b, _ := d.Read(1)
	for _, at := range []int{1, 504} {
		copy(b[at:], []byte{254, 255, 255, 255, 255, 255, 255, 63})
	}
	d.Write(0, b)
	s := opened(t, d, five(), 2) // its commit has the number 2 to the 62nd, less 1
	wantDone(t, s, d, keep(1, of("g", wr(4, 1))), true, 5)
	for _, c := range []change{mint("k", false, "v"), merge(wr(4, 1)), take(1, spans(sp(4, 1))), keep(1, of("h", wr(4, 1))), giveUp(3, "g", dot(4, 1))} {
		wantNo(t, s, d, c, api.ErrRoot)
	}
	for _, c := range []change{merge(wr(2, 1)), keep(1, of("g", wr(4, 1))), giveUp(1, "h", dot(4, 1))} {
		wantDone(t, s, d, c, false, 0)
	}
	wantDone(t, s, d, take(1, spans(sp(2, 1))), 0, 0)
}
