package store

import (
	"math/rand"
	"testing"

	"rookery/api"
	"rookery/disk"
)

// crash: where the power fails: behind so many raw writes, of the next one so many bytes are there.
type crash struct{ after, torn int }

// tears: where a sector may be torn.
func tears() []int { return []int{0, 1, 2, 8, 9, 10, 60, 109, 504, 505, 511, 512} }

// play: a disk, its store, and a plain one beside it.
type play struct {
	d *disk.Disk
	s *Store
	p *plain
}

func played(t *testing.T, c api.Config, me int, calls ...change) *play {
	t.Helper()
	x := &play{d: newDisk(t), p: newPlain(c, me)}
	x.s = opened(t, x.d, c, me)
	for _, c := range calls {
		if err := sameCall(t, x.s, x.d, x.p, 0, c); err != api.OK {
			t.Fatalf("%s: %d", c.what, err)
		}
	}
	return x
}

// on puts the power on, and opens the store anew: what it tells is what was stored ahead of the call, or what is behind it. It answers whether it is the latter.
func (x *play) on(t *testing.T, at crash, behind *plain) bool {
	t.Helper()
	x.d.Arm(-1, 0)
	x.d.On()
	x.s = opened(t, x.d, x.p.c, x.p.me)
	got := showState(x.s.See())
	ahead := x.p.copy()
	ahead.gen, behind.gen = ahead.gen+1, behind.gen+1
	x.p = ahead
	if got == showState(ahead.see()) {
		return false
	}
	if got != showState(behind.see()) {
		t.Fatalf("%v: neither what was ahead nor what is behind: %s", at, got)
	}
	x.p = behind
	return true
}

// crashed plays a call in which the power fails, and opens the store anew.
func (x *play) crashed(t *testing.T, c change, at crash) {
	t.Helper()
	behind := x.p.copy()
	want, wantErr := c.do(behind)
	writes := behind.writes - x.p.writes
	x.d.Arm(at.after, at.torn)
	got, err := c.do(x.s)
	if at.after < writes {
		want, wantErr = c.zero, api.ErrDown
	}
	if got != want || err != wantErr || x.s.Dead() != (at.after < writes) {
		t.Fatalf("%v: %s: %v, %d, dead %v; want %v, %d", at, c.what, got, err, x.s.Dead(), want, wantErr)
	}
	lasts := x.on(t, at, behind)
	if writes == 0 {
		return
	}
	if whole := at.after >= writes || at.after == writes-1 && at.torn >= 512; whole && !lasts {
		t.Fatalf("%v: %s: the root is whole, and the state is that from ahead", at, c.what)
	}
	if at.after < writes-1 && lasts {
		t.Fatalf("%v: %s: there is no root yet, and it counts", at, c.what)
	}
}

// crashedOpen plays an Open in which the power fails, and opens the store anew.
func (x *play) crashedOpen(t *testing.T, at crash) {
	t.Helper()
	behind := x.p.copy()
	behind.gen++
	x.d.Arm(at.after, at.torn)
	s, err := Open(x.d, x.p.c, x.p.me)
	if down := at.after < 5; (s == nil) != down || (err == api.ErrDown) != down {
		t.Fatalf("%v: Open: %v, %d", at, s != nil, err)
	}
	x.on(t, at, behind)
}

// story: calls of every sort, each of which commits.
func story() []change {
	return []change{
		mint("k", false, "v"), keep(1, of("g", wr(1, 1))), merge(of("p", wr(0, 3))), take(1, spans(sp(2, 1), sp(4, 0, 2, 6)), of("a", wr(4, 2)), of("j", wr(4, 6))), mint("k", true, "", sp(2, 1)), keep(3, of("g", wr(1, 1))), giveUp(1, "g", dot(1, 1)), take(1, spans(sp(4, 6))), take(2, spans(sp(0, 3), sp(1, 9)), of("p", wr(1, 9, sp(0, 0, 3)))), merge(wr(4, 7, sp(2, 2))), mint("p", false, "w"),
	}
}

// TestP912EveryWrite: the power fails at every raw write of every call, at every edge; the story goes on behind it.
func TestP912EveryWrite(t *testing.T) {
	for n, c := range story() {
		writes := played(t, five(), 2, story()[:n+1]...).p.writes - played(t, five(), 2, story()[:n]...).p.writes
		for after := range writes + 1 {
			for _, torn := range tears() {
				x := played(t, five(), 2, story()[:n]...)
				x.crashed(t, c, crash{after, torn})
				if after%4 > 0 {
					continue
				}
				for _, more := range story()[n+1:] {
					was := x.d.Writes() - x.p.writes
					sameCall(t, x.s, x.d, x.p, was, more)
				}
				wantState(t, "at the story's end", x.s, x.p.see())
				wantPages(t, "at the story's end", x.d, x.p.pageList(t)...)
			}
		}
	}
}

// TestP912Open: the power fails in an Open, and in the Open behind it.
func TestP912Open(t *testing.T) {
	for _, n := range []int{0, 5, len(story())} {
		for after := range 6 {
			for _, torn := range tears() {
				x := played(t, five(), 2, story()[:n]...)
				x.crashedOpen(t, crash{after, torn})
				x.crashedOpen(t, crash{4, torn})
				x.crashedOpen(t, crash{after, 508})
				x.crashed(t, mint("l", false, "v"), crash{8, torn})
				wantPages(t, "behind it", x.d, x.p.pageList(t)...)
			}
		}
	}
}

// TestP912Random: long rows of crashes, in random calls.
func TestP912Random(t *testing.T) {
	for seed := range int64(40) {
		r := rand.New(rand.NewSource(seed))
		c := oneOf(r, three(), five(), anyConfig(r))
		x := played(t, c, r.Intn(c.Nodes))
		for range 40 {
			at := crash{r.Intn(14), oneOf(r, tears()...)}
			if r.Intn(8) == 0 {
				x.crashedOpen(t, at)
			} else {
				x.crashed(t, anyCall(r, c, x.p.me), at)
			}
		}
		wantPages(t, "behind all", x.d, x.p.pageList(t)...)
	}
}
