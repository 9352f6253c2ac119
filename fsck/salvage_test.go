package fsck

import (
	"bytes"
	"fmt"
	"testing"

	"rookery/api"
)

// scattered: an image of which no root is good, with pages in these slots.
func scattered(p pages) []byte {
	b := make([]byte, size)
	setRoot(b, 0, bytes.Repeat([]byte{255}, 512))
	setRoot(b, 1, bytes.Repeat([]byte{255}, 512))
	for slot, x := range p {
		setSlot(b, slot, x)
	}
	return b
}

// TestP2007Slots: each slot is looked at, whether a root names it or not; nothing else is.
func TestP2007Slots(t *testing.T) {
	c := three()
	for slot := range 200 {
		wantSalvage(t, fmt.Sprint("slot ", slot), scattered(pages{slot: keyPage(wr(0, 1), wr(2, 1))}), c, 1, wr(0, 1), wr(2, 1))
	}
	b := scattered(nil)
	copy(b[1024:], keyPage(wr(0, 1)))
	copy(b[2048:], keyPage(wr(0, 1)))
	wantSalvage(t, "ahead of the slots", b, c, 1)
	copy(b[4096+512:], keyPage(wr(0, 1)))
	wantSalvage(t, "between two slots", b, c, 1)
	wantSalvage(t, "zeros", make([]byte, size), c, 1)
	full := pages{}
	var want []api.Write
	for slot := range 200 {
		full[slot] = keyPage(of(fmt.Sprintf("%03d", (slot*7)%200), wr(1, slot%100+1)))
	}
	for i := range 200 {
		want = append(want, of(fmt.Sprintf("%03d", i), wr(1, (i*143)%200%100+1))) // 7 times 143 is 1001
	}
	wantSalvage(t, "all slots", scattered(full), c, 1, want...)
}

// TestP2007Pages: of keys and hints, that page.Check takes; their writes that are right.
func TestP2007Pages(t *testing.T) {
	c := three()
	wantSalvage(t, "a page of clocks", scattered(pages{3: clockPage(1, cl(0, sp(1, 1)))}), c, 1)
	wantSalvage(t, "a hint", scattered(pages{3: hintPage(7, wr(0, 1))}), c, 1, wr(0, 1))
	wantSalvage(t, "spoilt pages", scattered(pages{3: spoilt(hintPage(1, wr(0, 1)), 2047, 1), 4: spoilt(keyPage(wr(0, 1)), 3, 9), 5: keyPage(wr(0, 2))}), c, 1, wr(0, 2))
	wantSalvage(t, "writes that are not right", scattered(pages{0: keyPage(wr(0, 1), wr(0, 101), wr(1, 1), wr(2, 1, sp(3, 1)), wr(3, 1)), 1: hintPage(1, wr(4, 1))}), c, 1, wr(0, 1), wr(1, 1))
	wantSalvage(t, "covered, not known, too many, another's", scattered(pages{0: keyPage(wr(0, 1), wr(1, 1, sp(0, 1)), wr(2, 1))}), c, 0, wr(0, 1), wr(1, 1, sp(0, 1)), wr(2, 1))
	for me := range 3 {
		wantSalvage(t, "any node", scattered(pages{0: keyPage(wr(0, 1))}), c, me, wr(0, 1))
	}
}

// TestP2007Order: by keys, by dots, then as they were met; of those that are the same the first alone.
func TestP2007Order(t *testing.T) {
	c := three()
	p := pages{
		0:   keyPage(of("b", wr(1, 1)), of("b", wr(2, 1))),
		1:   keyPage(of("a", with("y", wr(1, 2)))),
		7:   hintPage(2, of("b", wr(0, 9))),
		8:   keyPage(of("a", with("x", wr(1, 2))), of("a", wr(2, 1))),
		60:  keyPage(of("b", wr(1, 1)), of("b", with("", wr(2, 1)))),
		61:  hintPage(1, of("a", with("y", wr(1, 2)))),
		62:  hintPage(1, of("a", gone(wr(1, 2)))),
		150: keyPage(of("a", with("y", wr(1, 2, sp(0, 1))))),
		151: keyPage(of("a", with("", wr(1, 2)))),
		152: keyPage(of("a", with("x", wr(1, 2)))),
		199: keyPage(of("a", wr(0, 3)), of("a", with("y", wr(1, 2, sp(0, 1))))),
	}
	wantSalvage(t, "several", scattered(p), c, 1,
		of("a", wr(0, 3)), of("a", with("y", wr(1, 2))), of("a", with("x", wr(1, 2))), of("a", gone(wr(1, 2))), of("a", with("y", wr(1, 2, sp(0, 1)))), of("a", with("", wr(1, 2))), of("a", wr(2, 1)),
		of("b", wr(0, 9)), of("b", wr(1, 1)), of("b", wr(2, 1)), of("b", with("", wr(2, 1))))
}

// TestP2007Older: what was written over and still stands in its slot is told, until the slot is used again.
func TestP2007Older(t *testing.T) {
	c := three()
	d := newDisk(t)
	s := opened(t, d, c, 1) // page 0 in slot 0
	first, _ := s.Mint("k", false, []byte("v"), nil)
	wantSalvage(t, "one", d.Image(), c, 1, first) // slots 1 and 2
	second, _ := s.Mint("k", false, []byte("w"), []api.Span{sp(1, 1)})
	wantDump(t, "written over", d.Image(), c, 1, s.See())
	wantSalvage(t, "written over", d.Image(), c, 1, first, second) // slots 0 and 3
	third, _ := s.Mint("k", true, nil, []api.Span{sp(1, 2)})
	wantSalvage(t, "and again", d.Image(), c, 1, second, third) // slots 1 and 2
	b := d.Image()
	setRoot(b, 0, bytes.Repeat([]byte{255}, 1024))
	setRoot(b, 1, bytes.Repeat([]byte{255}, 512))
	wantFinds(t, "no root", b, c, 1, find(FindRoot, -1, 0))
	wantSalvage(t, "no root", b, c, 1, second, third)
}

// salvagesAll: each write of a Dump is among those that are salvaged.
func salvagesAll(t *testing.T, what string, image []byte, c api.Config, me int) {
	t.Helper()
	left, _ := Dump(image, c, me)
	all, err := Salvage(image, c, me)
	if err != api.OK {
		t.Fatalf("%s: Salvage: %d", what, err)
	}
	there := map[string]int{}
	for _, w := range all {
		there[show(w)]++
	}
	for _, l := range left.Keys {
		for _, w := range l {
			if there[show(w)] != 1 {
				t.Errorf("%s: Salvage tells %s %d times", what, show(w), there[show(w)])
			}
		}
	}
	for _, h := range left.Hints {
		if there[show(h.Write)] != 1 {
			t.Errorf("%s: Salvage tells %s %d times", what, show(h.Write), there[show(h.Write)])
		}
	}
}
