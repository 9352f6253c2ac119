package root

import (
	"bytes"
	"encoding/binary"
	"slices"
	"testing"

	"rookery/api"
)

// sectorOf: a root's bytes by the table of P802; of each page its slot + 1.
func sectorOf(seq uint64, slots map[int]byte) []byte {
	b := make([]byte, 512)
	b[0] = 82
	binary.LittleEndian.PutUint64(b[1:], seq)
	for n, s := range slots {
		b[9+n] = s
	}
	binary.LittleEndian.PutUint64(b[504:], seq)
	return b
}

func wantCounting(t *testing.T, what string, zero, one []byte, seq int, good bool) Root {
	t.Helper()
	r, found := Counting([Roots][]byte{zero, one})
	if found != good || r.Seq != seq {
		t.Errorf("%s: %d, %v; want %d, %v", what, r.Seq, found, seq, good)
	}
	return r
}

func TestCounting(t *testing.T) {
	zeros, torn := make([]byte, 512), bytes.Repeat([]byte{7}, 512)
	two, three := sectorOf(2, map[int]byte{0: 1}), sectorOf(3, map[int]byte{99: 200})
	wantCounting(t, "both zeros", zeros, zeros, 0, true)
	wantCounting(t, "one good", two, torn, 2, true)
	wantCounting(t, "the other", torn, three, 3, true)
	wantCounting(t, "zeros and a torn one", torn, zeros, 0, true)
	wantCounting(t, "none", torn, torn, 0, false)
	wantCounting(t, "in each other's place", three, two, 0, false)
	wantCounting(t, "the greater one is behind", two, three, 3, true)
	wantCounting(t, "the greater one is ahead", sectorOf(1<<62, nil), three, 1<<62, true)
	wantCounting(t, "a number too great", sectorOf(1<<62+2, nil), torn, 0, false)
	wantCounting(t, "a number of zero with a mark", sectorOf(0, nil), torn, 0, false)
	wantCounting(t, "a slot that is none", sectorOf(2, map[int]byte{5: 201}), torn, 0, false)
	wantCounting(t, "a slot twice", sectorOf(2, map[int]byte{5: 9, 6: 9}), torn, 0, false)
	for at := range 512 {
		b := slices.Clone(two)
		if b[at] ^= 128; at < 9 || at >= 109 {
			wantCounting(t, "a byte changed", b, torn, 0, false)
		}
	}
}

func TestSlots(t *testing.T) {
	r := wantCounting(t, "two pages", sectorOf(2, map[int]byte{0: 1, 7: 200}), make([]byte, 512), 2, true)
	for n := range 100 {
		if r.Has(n) != (n == 0 || n == 7) {
			t.Errorf("page %d: %v", n, r.Has(n))
		}
	}
	if r.Slot(0) != 0 || r.Slot(7) != 199 || FirstSector(0) != 8 || FirstSector(199) != 804 || FirstSector(199)+SlotSectors != 808 {
		t.Errorf("slots %d and %d, sectors %d and %d", r.Slot(0), r.Slot(7), FirstSector(0), FirstSector(199))
	}
}

func TestAfter(t *testing.T) {
	data := []byte{1}
	r := Root{}.After([]api.Change{{Page: 0, Data: data}, {Page: 5}, {Page: 7, Data: data}})
	if !bytes.Equal(r.Sector(), sectorOf(1, map[int]byte{0: 1, 7: 2})) {
		t.Errorf("the first: % X", r.Sector()[:120])
	}
	r = r.After([]api.Change{{Page: 0, Data: data}, {Page: 7}, {Page: 9, Data: data}})
	if !bytes.Equal(r.Sector(), sectorOf(2, map[int]byte{0: 3, 9: 4})) {
		t.Errorf("the second takes no slot of the first: % X", r.Sector()[:120])
	}
	r = r.After([]api.Change{{Page: 7, Data: data}})
	if !bytes.Equal(r.Sector(), sectorOf(3, map[int]byte{0: 3, 7: 1, 9: 4})) {
		t.Errorf("the third takes the least that is free: % X", r.Sector()[:120])
	}
}
