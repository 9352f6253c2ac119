package node

import (
	"math"
	"testing"

	"rookery/api"
	"rookery/disk"
	"rookery/page"
	"rookery/pagefile"
)

func zeros(t *testing.T, sectors int) *disk.Disk {
	t.Helper()
	d, err := disk.New(sectors)
	if err != api.OK {
		t.Fatalf("a disk: %d", err)
	}
	return d
}

// holding: a disk whose page file has these pages.
func holding(t *testing.T, changes ...api.Change) *disk.Disk {
	t.Helper()
	d := zeros(t, pagefile.Sectors)
	f, _ := pagefile.Open(d)
	if err := f.Commit(changes); err != api.OK {
		t.Fatalf("a commit: %d", err)
	}
	return d
}

func clocksPage(t *testing.T, gen int, clocks ...api.Clock) api.Change {
	t.Helper()
	b, err := page.BuildClocks(gen, clocks)
	if err != api.OK {
		t.Fatalf("a page: %d", err)
	}
	return api.Change{Page: 0, Data: b}
}

func wantNoNode(t *testing.T, what string, c api.Config, me int, d *disk.Disk, want api.Errno) {
	t.Helper()
	wrote, on := d.Writes(), d.IsOn()
	if n, err := Open(c, me, d); n != nil || err != want {
		t.Errorf("Open, %s: %v, %d; want nil, %d", what, n != nil, err, want)
	}
	if d.Writes() != wrote || d.IsOn() != on {
		t.Errorf("Open, %s: it is refused, and %d raw writes are done", what, d.Writes()-wrote)
	}
}

// TestP1401Refused: the errors, and their order.
func TestP1401Refused(t *testing.T) {
	off, good := zeros(t, 9), zeros(t, pagefile.Sectors)
	off.Off()
	for what, change := range map[string]func(c *api.Config){
		"no node": func(c *api.Config) { c.Nodes = 0 }, "more preferred than there are": func(c *api.Config) { c.Prefer = 4 },
		"no range": func(c *api.Config) { c.Ranges = 0 }, "no gap": func(c *api.Config) { c.Gap = 0 }, "no bag": func(c *api.Config) { c.Bag = 0 },
		"too many hints": func(c *api.Config) { c.Hints = api.MaxHints + 1 }, "nothing": func(c *api.Config) { *c = api.Config{} },
	} {
		c := three()
		change(&c)
		for _, me := range []int{0, 3, -1} {
			wantNoNode(t, what, c, me, good, api.ErrArg)
			wantNoNode(t, what+", a disk that is off", c, me, off, api.ErrArg)
		}
	}
	for _, me := range []int{-1, 3, math.MinInt, math.MaxInt} {
		wantNoNode(t, "no such node", three(), me, good, api.ErrNode)
		wantNoNode(t, "no such node, a disk that is off", three(), me, off, api.ErrNode)
	}
	wantNoNode(t, "a disk that is off", three(), 0, off, api.ErrDown)
}

// TestP1401StoreRefuses: the errors of store.Open.
func TestP1401StoreRefuses(t *testing.T) {
	wantNoNode(t, "too few sectors", three(), 1, zeros(t, pagefile.Sectors-1), api.ErrRoot)
	wantNoNode(t, "Gen at its bound", three(), 1, holding(t, clocksPage(t, 1<<48-1)), api.ErrCount)
	strange := clocksPage(t, 1, api.Clock{Range: 0, Set: spans(sp(3, 1))})
	wantNoNode(t, "a clock of a node that is none", three(), 1, holding(t, strange), api.ErrPage)
	p := fresh(t, five(), 2)
	p.put(1, "k")
	wantNoNode(t, "the disk of another config", three(), 1, p.d, api.ErrPage)
}

// TestP1401Open: two timers, no calls; each Open is counted; what was stored is there.
func TestP1401Open(t *testing.T) {
	for nodes := 1; nodes <= api.MaxNodes; nodes++ {
		for prefer := 1; prefer <= min(nodes, api.MaxPrefer); prefer++ {
			c := five()
			c.Nodes, c.Prefer = nodes, prefer
			for me := range nodes {
				p := fresh(t, c, me)
				p.wantTimers(tm(30, 1, 3, 0), tm(50, 2, 2, 0))
				if x := p.n.See(); !x.Up || p.n.Down() || x.State.Gen != 1 || len(x.Calls)+len(x.State.Keys)+len(x.State.Hints) > 0 || p.d.Writes() != 5 {
					t.Errorf("a new node: %s", p.sight())
				}
			}
		}
	}
}

// TestP1401OpenAgain: of calls and timers nothing outlasts a node, of what is stored all.
func TestP1401OpenAgain(t *testing.T) {
	p := fresh(t, three(), atP)
	p.does(p.n.Put(1, "k", false, []byte("v"), nil, 2, true))
	p.does(p.n.Get(2, "j", 2, true))
	p.does(p.n.Fire(0))
	p.wantCalls(1, 2)
	for gen := 2; gen <= 4; gen++ {
		was := showState(p.n.See().State)
		p.restart()
		p.wantTimers(tm(30, 1, 3, 0), tm(50, 2, 2, 0))
		p.wantCalls()
		if x := p.n.See(); x.State.Gen != gen || showState(x.State) != was {
			t.Errorf("Gen %d, %s; it was %s", x.State.Gen, showState(x.State), was)
		}
		p.handle(msgStored(atQ, atP, 1, atQ), api.Acts{}) // nobody waits for it any more
		p.put(1, "j", sp(atP, gen-1))                     // the number is free again
	}
	p.wantClock(0, sp(atP, 4))
}

// TestP1401PowerFails: in each raw write of Open, torn anywhere: no node; what was stored is there at the next Open.
func TestP1401PowerFails(t *testing.T) {
	for after := range 6 {
		for _, torn := range []int{0, 1, 100, 511, 512} {
			p := fresh(t, three(), atP)
			p.put(1, "k")
			was := showState(p.n.See().State)
			p.d.Arm(after, torn)
			n, err := Open(three(), atP, p.d)
			if done := after == 5; done != (err == api.OK) || done != (n != nil) || !done && (err != api.ErrDown || p.d.IsOn()) {
				t.Errorf("power for %d raw writes and %d bytes: %v, %d", after, torn, n != nil, err)
			}
			p.restart()
			if x := p.n.See().State; showState(x) != was || x.Gen < 2 || x.Gen > 3 {
				t.Errorf("power for %d raw writes and %d bytes: Gen %d, %s; it was %s", after, torn, x.Gen, showState(x), was)
			}
		}
	}
}
