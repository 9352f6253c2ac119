package fsck

import (
	"encoding/binary"
	"fmt"
	"maps"
	"slices"
	"strings"
	"testing"

	"rookery/api"
	"rookery/disk"
	"rookery/page"
	"rookery/pagefile"
	"rookery/store"
)

const size = 413696

// three: the config of the chapter's examples: the order of range 0 is 1 2 0.
func three() api.Config {
	return api.Config{Nodes: 3, Prefer: 2, Ranges: 1, Siblings: 2, Gap: 4, Count: 100, Keys: 2, Hints: 1, Bag: 50}
}

// five: the ranges 0 to 3 prefer 1 3, 2 4, 2 0, 1 3. The keys a d i j k l o lie in 1, p in 2, g h n in 0, b c f m in 3: node 2 minds the first ones, and stands in for the others.
func five() api.Config {
	return api.Config{Nodes: 5, Prefer: 2, Ranges: 4, Siblings: 3, Gap: 6, Count: 1000, Keys: 6, Hints: 4, Bag: 50}
}

// widest: as much as a node may store, of nodes of which each range prefers two.
func widest() api.Config {
	return api.Config{Nodes: 8, Prefer: 2, Ranges: 16, Siblings: 8, Gap: 64, Count: api.MaxCount, Keys: 64, Hints: 32, Bag: 256}
}

// sp: a span: a base and the counts beyond it.
func sp(node, base int, beyond ...int) api.Span {
	s := api.Span{Node: node, Base: base}
	for _, c := range beyond {
		s.Bits |= 1 << (c - base - 1)
	}
	return s
}

func dot(node, count int) api.Dot { return api.Dot{Node: node, Count: count} }

// wr: a write of k with the value v.
func wr(node, count int, ctx ...api.Span) api.Write {
	return api.Write{Dot: dot(node, count), Key: "k", Value: []byte("v"), Ctx: ctx}
}

func of(key string, w api.Write) api.Write {
	w.Key = key
	return w
}

func with(value string, w api.Write) api.Write {
	w.Value = []byte(value)
	return w
}

func gone(w api.Write) api.Write {
	w.Dead, w.Value = true, nil
	return w
}

func list(l ...api.Write) []api.Write { return l }

func cl(rng int, l ...api.Span) api.Clock { return api.Clock{Range: rng, Set: l} }

func clocks(l ...api.Clock) []api.Clock { return l }

func hint(owner int, w api.Write) api.Hint { return api.Hint{Owner: owner, Write: w} }

func hints(l ...api.Hint) []api.Hint { return l }

// state: of a Gen, clocks, hints and keys.
func state(gen int, clocks []api.Clock, hints []api.Hint, keys ...[]api.Write) api.State {
	return api.State{Gen: gen, Keys: keys, Clocks: clocks, Hints: hints}
}

func find(kind, page, at int) api.Finding { return api.Finding{Kind: kind, Page: page, At: at} }

// pages: what an image has of pages, by their numbers: any bytes of 2048.
type pages map[int][]byte

func clockPage(gen int, l ...api.Clock) []byte { return made(page.BuildClocks(gen, l)) }

func keyPage(l ...api.Write) []byte { return made(page.BuildKey(l)) }

func hintPage(owner int, w api.Write) []byte { return made(page.BuildHint(hint(owner, w))) }

func made(b []byte, err api.Errno) []byte {
	if err != api.OK {
		panic(fmt.Sprint("a page: ", err))
	}
	return b
}

// spoilt: the bytes with one of them changed.
func spoilt(b []byte, at int, c byte) []byte {
	b = slices.Clone(b)
	b[at] = c
	return b
}

// rootOf: the bytes of a root: of pages and their slots, as the table of P802 has them.
func rootOf(seq uint64, slots map[int]int) []byte {
	b := []byte{82}
	b = binary.LittleEndian.AppendUint64(b, seq)
	for n := range 100 {
		s, ok := slots[n]
		if !ok {
			s = -1
		}
		b = append(b, byte(s+1))
	}
	b = append(b, make([]byte, 395)...)
	return binary.LittleEndian.AppendUint64(b, seq)
}

// setSlot writes a page's bytes where the slot is.
func setSlot(image []byte, slot int, b []byte) { copy(image[4096+2048*slot:], b) }

// setRoot writes the sector 0 or 1.
func setRoot(image []byte, sector int, b []byte) { copy(image[512*sector:512*sector+512], b) }

// imageOf: the bytes of a disk with these pages, the lowest one in the slot first, the next ones behind it or, with a step of -1, ahead of it; the root has the number 7.
func imageOf(p pages, first, step int) []byte {
	image := make([]byte, size)
	slots := map[int]int{}
	for i, n := range slices.Sorted(maps.Keys(p)) {
		slots[n] = first + step*i
		setSlot(image, slots[n], p[n])
	}
	setRoot(image, 1, rootOf(7, slots))
	return image
}

func image(p pages) []byte { return imageOf(p, 0, 1) }

// changed: the image with these bytes.
func changed(image []byte, at int, b ...byte) []byte {
	image = slices.Clone(image)
	copy(image[at:], b)
	return image
}

// show: lists as text; nil and empty are the same.
func show(w api.Write) string {
	return fmt.Sprintf("%d.%d%v%q %v %q", w.Dot.Node, w.Dot.Count, w.Ctx, w.Key, w.Dead, w.Value)
}

func showAll(l []api.Write) string {
	var parts []string
	for _, w := range l {
		parts = append(parts, show(w))
	}
	return "[" + strings.Join(parts, ", ") + "]"
}

func showState(s api.State) string {
	text := fmt.Sprintf("Gen %d, clocks %v", s.Gen, s.Clocks)
	for _, l := range s.Keys {
		text += ", key " + showAll(l)
	}
	for _, h := range s.Hints {
		text += fmt.Sprintf(", for %d %s", h.Owner, show(h.Write))
	}
	return text
}

func wantFinds(t *testing.T, what string, image []byte, c api.Config, me int, want ...api.Finding) {
	t.Helper()
	got, err := Look(image, c, me)
	if err != api.OK || !slices.Equal(got, want) {
		t.Errorf("%s: Look: %v, %d; want %v", what, got, err, want)
	}
}

func wantDump(t *testing.T, what string, image []byte, c api.Config, me int, want api.State) {
	t.Helper()
	got, err := Dump(image, c, me)
	if err != api.OK || showState(got) != showState(want) {
		t.Errorf("%s: Dump: %s, %d; want %s", what, showState(got), err, showState(want))
	}
}

func wantSalvage(t *testing.T, what string, image []byte, c api.Config, me int, want ...api.Write) {
	t.Helper()
	got, err := Salvage(image, c, me)
	if err != api.OK || showAll(got) != showAll(want) {
		t.Errorf("%s: Salvage: %s, %d; want %s", what, showAll(got), err, showAll(want))
	}
}

// rebuilt: the image of a state that the node can have.
func rebuilt(t *testing.T, s api.State, c api.Config, me int) []byte {
	t.Helper()
	b, err := Rebuild(s, c, me)
	if err != api.OK || len(b) != size {
		t.Fatalf("Rebuild of %s: %d bytes, %d", showState(s), len(b), err)
	}
	return b
}

func wantNoImage(t *testing.T, what string, s api.State, c api.Config, me int) {
	t.Helper()
	if b, err := Rebuild(s, c, me); b != nil || err != api.ErrImage {
		t.Errorf("%s: Rebuild of %s: %d bytes, %d; want ErrImage", what, showState(s), len(b), err)
	}
}

func newDisk(t *testing.T) *disk.Disk {
	t.Helper()
	d, err := disk.New(pagefile.Sectors)
	if err != api.OK {
		t.Fatalf("a disk: %d", err)
	}
	return d
}

func diskOf(t *testing.T, image []byte) *disk.Disk {
	t.Helper()
	d, err := disk.From(image)
	if err != api.OK {
		t.Fatalf("a disk of %d bytes: %d", len(image), err)
	}
	return d
}

func opened(t *testing.T, d *disk.Disk, c api.Config, me int) *store.Store {
	t.Helper()
	s, err := store.Open(d, c, me)
	if s == nil || err != api.OK {
		t.Fatalf("Open: %v, %d; want a store", s != nil, err)
	}
	return s
}
