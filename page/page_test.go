package page

import (
	"math"
	"strings"
	"testing"

	"rookery/api"
)

// TestP701Form: each sample's page, field by field.
func TestP701Form(t *testing.T) {
	for _, c := range samples() {
		b, err := build(c)
		wantPage(t, "a page", b, err, full(join(fieldsOf(c))))
	}
}

// TestP701InBytes: a page of each kind, as it stands.
func TestP701InBytes(t *testing.T) {
	span := api.Span{Node: 3, Base: 0x0A0B0C, Bits: 0x8070605040302010}
	for _, row := range []struct {
		c    content
		text string
	}{
		{ofClocks(0x060504030201, cl(4, span), cl(14), cl(15, sp(0, 1), sp(7, 2))), "01 01 02 03 04 05 06 03 04 01 03 0C 0B 0A 00 10 20 30 40 50 60 70 80 0E 00 0F 02 00 01 00 00 00 00 00 00 00 00 00 00 00 07 02 00 00 00 00 00 00 00 00 00 00 00"},
		{ofKey(with("vw", of("ab", wr(1, 0x0A0B0D, span))), gone(of("ab", wr(2, 1)))), "02 02 61 62 02 01 0D 0B 0A 00 00 02 76 77 01 03 0C 0B 0A 00 10 20 30 40 50 60 70 80 02 01 00 00 00 01 00 00"},
		{ofHint(5, with("vw", of("ab", wr(1, 0x0A0B0D, span)))), "03 05 02 61 62 01 0D 0B 0A 00 00 02 76 77 01 03 0C 0B 0A 00 10 20 30 40 50 60 70 80"},
		{ofHint(5, gone(of("ab", wr(7, 1<<20)))), "03 05 02 61 62 07 00 00 10 00 01 00 00"},
	} {
		b, err := build(row.c)
		wantPage(t, "a page", b, err, pg(t, row.text))
	}
}

// TestP701Longest: every content has room: the chapter tells how long the longest ones are.
func TestP701Longest(t *testing.T) {
	longest := map[int]int{}
	for _, c := range samples() {
		b, content := built(t, c), join(fieldsOf(c))
		longest[c.kind] = max(longest[c.kind], len(content))
		if len(b) != 2048 {
			t.Errorf("a page of %d bytes", len(b))
		}
	}
	if longest[KindClocks] != 1704 || longest[KindKey] != 1427 || len(longest) != 3 {
		t.Errorf("the longest: %v", longest)
	}
}

func TestP701Kinds(t *testing.T) {
	if KindClocks != 1 || KindKey != 2 || KindHint != 3 {
		t.Errorf("kinds: %d %d %d", KindClocks, KindKey, KindHint)
	}
}

// noSets: lists that are no sets of dots.
func noSets() [][]api.Span {
	nine := append(eight(), sp(8, 1))
	return [][]api.Span{
		spans(sp(-1, 1)), spans(sp(8, 1)), spans(sp(math.MaxInt, 1)), spans(sp(256, 1)), spans(sp(1, -1)), spans(sp(1, api.MaxCount+1)), spans(sp(1, math.MinInt)), spans(sp(1, 1<<32+1)),
		spans(sp(1, 0)), spans(api.Span{Node: 1, Base: 1, Bits: 1}), spans(api.Span{Node: 1, Bits: 3}), spans(api.Span{Node: 1, Base: api.MaxCount, Bits: 2}), spans(api.Span{Node: 1, Base: api.MaxCount - 1, Bits: 2}),
		spans(api.Span{Node: 1, Base: api.MaxCount - 63, Bits: 1 << 63}), spans(sp(1, 1), sp(1, 2)), spans(sp(2, 1), sp(1, 1)), spans(sp(0, 1), sp(1, 0)), nine, append(nine, nine...), append(eight(), sp(7, 1)),
	}
}

func noKeys() []string {
	return []string{"", longKey + "g", strings.Repeat("k", 257), strings.Repeat("k", 1000)}
}

// noWrites: writes with a key that are not storable.
func noWrites() []api.Write {
	l := []api.Write{
		wr(-1, 1), wr(8, 1), wr(256, 1), wr(math.MinInt, 1), wr(math.MaxInt, 1), wr(0, 0), wr(0, -1), wr(0, api.MaxCount+1), wr(0, 1<<32+1), wr(0, math.MinInt), wr(0, math.MaxInt), {Key: "k"},
		with(longValue+"v", wr(0, 1)), with(strings.Repeat("v", 256), wr(0, 1)), with(strings.Repeat("v", 257), wr(0, 1)),
		wr(0, 3, sp(0, 3)), wr(0, 3, sp(0, 9)), wr(0, 3, sp(0, 1, 3)), wr(0, 64, sp(0, 0, 64)), wr(3, 3, sp(0, 1), sp(3, 3), sp(4, 1)), wr(7, api.MaxCount, sp(7, api.MaxCount)),
	}
	for _, value := range []string{"v", "\x00", longValue} {
		w := gone(wr(0, 1))
		l = append(l, with(value, w))
	}
	for _, s := range noSets() {
		l = append(l, wr(7, 1<<19, s...))
	}
	return l
}

// goodWrites: writes of the key k that are storable.
func goodWrites() []api.Write {
	l := []api.Write{
		wr(0, 1), wr(7, 1), wr(0, api.MaxCount), wr(7, api.MaxCount), gone(wr(0, 1)), with("", wr(0, 1)), with(longValue, wr(0, 1)), with("", gone(wr(0, 1))), with("\x00", wr(0, 1)),
		wr(0, 3, sp(0, 2)), wr(0, 3, sp(0, 1, 4)), wr(0, 3, sp(0, 2, 4)), wr(0, 3, sp(1, 3)), wr(0, 64, sp(0, 0, 63)), wr(3, 3, sp(2, 3), sp(3, 2), sp(4, 3)), wr(7, 1<<19, eight()...), wr(6, 65, eight()[:6]...),
	}
	for i := range api.MaxNodes {
		l = append(l, of("k", widest(i, api.MaxCount-i)), of("k", widest(i, 1+i*3)))
	}
	return l
}

func TestP702Clocks(t *testing.T) {
	for _, gen := range []int{0, 1, 255, 256, 1 << 40, topGen - 1, topGen} {
		b, err := BuildClocks(gen, nil)
		wantPage(t, "BuildClocks", b, err, full(join(fieldsOf(ofClocks(gen)))))
	}
	for at := range api.MaxRanges {
		for _, s := range [][]api.Span{nil, {}, eight(), spans(sp(0, 1)), spans(sp(7, api.MaxCount)), spans(sp(3, 0, 64))} {
			b, err := BuildClocks(7, clocks(cl(at, s...)))
			wantPage(t, "BuildClocks", b, err, full(join(fieldsOf(ofClocks(7, cl(at, s...))))))
		}
	}
}

func TestP702Refused(t *testing.T) {
	var sixteen []api.Clock
	for i := range 16 {
		sixteen = append(sixteen, cl(i))
	}
	none, wrong := cl(3, sp(1, 0)), cl(-1, sp(1, 0))
	for _, c := range []struct {
		gen    int
		clocks []api.Clock
		want   api.Errno
	}{
		{-1, nil, api.ErrArg}, {math.MinInt, nil, api.ErrArg}, {topGen + 1, nil, api.ErrArg}, {math.MaxInt, nil, api.ErrArg}, {topGen, sixteen, api.OK},
		{0, append(sixteen, cl(16)), api.ErrWide}, {0, append(sixteen, sixteen...), api.ErrWide}, {0, make([]api.Clock, 300), api.ErrWide}, {0, make([]api.Clock, 256), api.ErrWide},
		{0, clocks(cl(-1)), api.ErrRange}, {0, clocks(cl(16)), api.ErrRange}, {0, clocks(cl(256)), api.ErrRange}, {0, clocks(cl(math.MinInt)), api.ErrRange}, {0, clocks(cl(math.MaxInt)), api.ErrRange}, {0, clocks(cl(math.MaxInt), cl(0)), api.ErrRange},
		{0, clocks(cl(0), cl(0)), api.ErrRange}, {0, clocks(cl(3), cl(2)), api.ErrRange}, {0, clocks(cl(3), cl(15), cl(15)), api.ErrRange}, {0, clocks(cl(3), cl(15), cl(4)), api.ErrRange}, {0, clocks(cl(3), cl(15)), api.OK}, {0, clocks(cl(3), cl(4), cl(5)), api.OK}, {0, clocks(cl(3), cl(4), cl(3)), api.ErrRange},
		// the order of the errors
		{-1, make([]api.Clock, 17), api.ErrArg}, {-1, clocks(wrong), api.ErrArg}, {0, append(clocks(wrong), sixteen...), api.ErrWide}, {0, append(clocks(none), sixteen...), api.ErrWide},
		{0, clocks(wrong), api.ErrRange}, {0, clocks(none, wrong), api.ErrSet}, {0, clocks(none, cl(3)), api.ErrSet}, {0, clocks(cl(3), none), api.ErrRange}, {0, clocks(cl(2), none), api.ErrSet}, {0, clocks(cl(2), cl(16), none), api.ErrRange},
	} {
		b, err := BuildClocks(c.gen, c.clocks)
		if c.want == api.OK {
			wantPage(t, "BuildClocks", b, err, full(join(fieldsOf(ofClocks(c.gen, c.clocks...)))))
		} else {
			wantRefused(t, "BuildClocks", b, err, c.want)
		}
	}
	for _, s := range noSets() {
		b, err := BuildClocks(0, clocks(cl(2), cl(4, s...), cl(5)))
		wantRefused(t, "BuildClocks of no set", b, err, api.ErrSet)
	}
}

func wantKeyPage(t *testing.T, l []api.Write) {
	t.Helper()
	b, err := BuildKey(l)
	wantPage(t, "BuildKey", b, err, full(join(fieldsOf(ofKey(l...)))))
}

func wantNoKeyPage(t *testing.T, l []api.Write, want api.Errno) {
	t.Helper()
	b, err := BuildKey(l)
	wantRefused(t, "BuildKey", b, err, want)
}

func TestP703Writes(t *testing.T) {
	for _, w := range goodWrites() {
		wantKeyPage(t, list(w))
	}
	for n := 1; n <= 8; n++ {
		wantKeyPage(t, row(longKey, n))
	}
	for _, key := range []string{"k", "\x00", "ab", longKey[1:], longKey, "\xff\xfe"} {
		wantKeyPage(t, row(key, 3))
	}
	// covers are not looked at
	wantKeyPage(t, list(wr(0, 1), wr(0, 2, sp(0, 1)), wr(1, 1, sp(0, 2))))
	wantKeyPage(t, list(wr(0, 1, sp(0, 0, 2)), wr(0, 2, sp(0, 1))))
}

func TestP703Refused(t *testing.T) {
	wantNoKeyPage(t, nil, api.ErrArg)
	wantNoKeyPage(t, []api.Write{}, api.ErrArg)
	wantNoKeyPage(t, row("k", 9), api.ErrWide)
	wantNoKeyPage(t, row("k", 10), api.ErrWide)
	wantNoKeyPage(t, make([]api.Write, 257), api.ErrWide)
	for _, key := range noKeys() {
		wantNoKeyPage(t, row(key, 1), api.ErrKey)
		wantNoKeyPage(t, row(key, 3), api.ErrKey)
		wantNoKeyPage(t, append(row("k", 2), of(key, wr(7, 1))), api.ErrKey)
	}
	for _, w := range noWrites() {
		wantNoKeyPage(t, list(w), api.ErrWrite)
		wantNoKeyPage(t, append(row("k", 2), w), api.ErrWrite)
		wantNoKeyPage(t, append(list(w), row("k", 2)...), api.ErrWrite)
	}
	for _, l := range [][]api.Write{
		list(wr(0, 1), wr(0, 1)), list(wr(0, 2), wr(0, 1)), list(wr(1, 1), wr(0, 1)), list(wr(1, 1), wr(0, 9)), list(wr(1, 9), wr(0, 1)), list(wr(0, 1), wr(0, 2), wr(0, 2)), list(wr(0, 1), wr(0, 3), wr(0, 2)), list(wr(0, 1), wr(1, 1), wr(0, 2)),
		list(with("a", wr(7, api.MaxCount)), with("b", wr(7, api.MaxCount))), list(wr(3, 5), wr(3, 4), wr(3, 6)),
	} {
		wantNoKeyPage(t, l, api.ErrArg)
	}
	for _, l := range [][]api.Write{list(wr(0, 1), wr(0, 2)), list(wr(0, 9), wr(1, 1)), list(wr(0, 9), wr(1, 9)), list(wr(6, api.MaxCount), wr(7, 1)), list(wr(0, 1), wr(0, 9), wr(1, 2), wr(7, 1))} {
		wantKeyPage(t, l)
	}
}

// TestP703Order: of two errors the one that is named first, and of two writes the first one's.
func TestP703Order(t *testing.T) {
	bad, other := wr(0, 0), of("j", wr(0, 2))
	wantNoKeyPage(t, row("", 9), api.ErrWide)
	wantNoKeyPage(t, append(list(bad), row("k", 8)...), api.ErrWide)
	wantNoKeyPage(t, list(of("", bad)), api.ErrKey)
	wantNoKeyPage(t, list(of("", bad), of("", wr(0, 1))), api.ErrKey)
	wantNoKeyPage(t, list(bad, other), api.ErrWrite)
	wantNoKeyPage(t, list(wr(0, 1), other, bad), api.ErrKey)
	wantNoKeyPage(t, list(wr(0, 1), of("j", bad)), api.ErrKey)
	wantNoKeyPage(t, list(wr(0, 1), of("j", wr(0, 1))), api.ErrKey)
	wantNoKeyPage(t, list(wr(0, 1), wr(0, 1), other), api.ErrArg)
	wantNoKeyPage(t, list(wr(0, 1), wr(0, 1), bad), api.ErrArg)
	wantNoKeyPage(t, list(wr(0, 1), bad, wr(0, 1)), api.ErrWrite)
	wantNoKeyPage(t, list(wr(0, 2), wr(0, 1, sp(0, 1))), api.ErrWrite)
	for _, key := range []string{"j", "k\x00", "kk", "K", "", longKey + "g"} {
		wantNoKeyPage(t, list(wr(0, 1), of(key, wr(0, 2))), api.ErrKey)
	}
}

func TestP704Hints(t *testing.T) {
	for owner := range 8 {
		for _, w := range append(goodWrites(), of(longKey, wr(0, 1)), of("\x00", wr(1, 1))) {
			b, err := BuildHint(api.Hint{Owner: owner, Write: w})
			wantPage(t, "BuildHint", b, err, full(join(fieldsOf(ofHint(owner, w)))))
		}
	}
}

func TestP704Refused(t *testing.T) {
	for _, owner := range []int{-1, 8, 255, 256, math.MinInt, math.MaxInt} {
		for _, w := range []api.Write{wr(0, 1), {}, wr(0, 0)} {
			b, err := BuildHint(api.Hint{Owner: owner, Write: w})
			wantRefused(t, "BuildHint", b, err, api.ErrNode)
		}
	}
	for _, key := range noKeys() {
		for _, w := range []api.Write{wr(0, 1), wr(0, 0)} {
			b, err := BuildHint(api.Hint{Owner: 7, Write: of(key, w)})
			wantRefused(t, "BuildHint", b, err, api.ErrKey)
		}
	}
	for _, w := range noWrites() {
		b, err := BuildHint(api.Hint{Write: w})
		wantRefused(t, "BuildHint", b, err, api.ErrWrite)
	}
}
