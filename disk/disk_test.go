package disk

import (
	"bytes"
	"math"
	"slices"
	"testing"

	"rookery/api"
)

func full(c byte) []byte { return bytes.Repeat([]byte{c}, api.SectorSize) }

// counting: bytes that differ from place to place, so that a shifted copy is seen.
func counting(first int) []byte {
	b := make([]byte, api.SectorSize)
	for i := range b {
		b[i] = byte((first + i) % 251)
	}
	return b
}

func fresh(t *testing.T, sectors int) *Disk {
	t.Helper()
	d, err := New(sectors)
	if d == nil || err != api.OK {
		t.Fatalf("New(%d): %v, %d", sectors, d != nil, err)
	}
	return d
}

func wantErr(t *testing.T, what string, got, want api.Errno) {
	t.Helper()
	if got != want {
		t.Errorf("%s: %d; want %d", what, got, want)
	}
}

func wantSector(t *testing.T, d *Disk, sector int, want []byte) {
	t.Helper()
	b, err := d.Read(sector)
	if err != api.OK || !bytes.Equal(b, want) {
		t.Errorf("Read(%d): %d, %d bytes that are not those wanted", sector, err, len(b))
	}
}

// wantDone: Writes and Trace.
func wantDone(t *testing.T, d *Disk, writes int, trace ...int) {
	t.Helper()
	if d.Writes() != writes || !slices.Equal(d.Trace(), trace) {
		t.Errorf("Writes %d, Trace %v; want %d, %v", d.Writes(), d.Trace(), writes, trace)
	}
}

// wantUnarmed: a write is done whole, and the power stays.
func wantUnarmed(t *testing.T, d *Disk) {
	t.Helper()
	wantErr(t, "Write of a disk that is not armed", d.Write(0, full('u')), api.OK)
	wantSector(t, d, 0, full('u'))
}

func TestP101New(t *testing.T) {
	for _, n := range []int{0, -1, api.MaxSectors + 1, math.MinInt, math.MaxInt} {
		if d, err := New(n); d != nil || err != api.ErrArg {
			t.Errorf("New(%d): %v, %d; want nil, ErrArg", n, d != nil, err)
		}
	}
	for _, n := range []int{1, 2, 3, api.MaxSectors - 1, api.MaxSectors} {
		d := fresh(t, n)
		if d.Sectors() != n || !d.IsOn() {
			t.Errorf("New(%d): Sectors %d, IsOn %v", n, d.Sectors(), d.IsOn())
		}
		if !bytes.Equal(d.Image(), make([]byte, n*api.SectorSize)) {
			t.Errorf("New(%d): bytes that are not 0", n)
		}
		wantDone(t, d, 0)
		wantSector(t, d, n-1, full(0))
		wantErr(t, "the last sector", d.Write(n-1, full(1)), api.OK)
		wantUnarmed(t, d)
		d.Off()
		if d.Sectors() != n {
			t.Errorf("Sectors while off: %d; want %d", d.Sectors(), n)
		}
	}
}

func TestP102From(t *testing.T) {
	whole := api.SectorSize * api.MaxSectors
	for _, n := range []int{0, 1, 511, 513, 1023, 1025, whole - 1, whole + 1, whole + api.SectorSize} {
		if d, err := From(make([]byte, n)); d != nil || err != api.ErrArg {
			t.Errorf("From of %d bytes: %v, %d; want nil, ErrArg", n, d != nil, err)
		}
	}
	if d, err := From(nil); d != nil || err != api.ErrArg {
		t.Errorf("From(nil): %v, %d; want nil, ErrArg", d != nil, err)
	}
	for _, n := range []int{1, 2, 5, api.MaxSectors} {
		var image []byte
		for i := range n {
			image = append(image, counting(i*7)...)
		}
		d, err := From(image)
		if d == nil || err != api.OK {
			t.Fatalf("From of %d sectors: %d", n, err)
		}
		if d.Sectors() != n || !d.IsOn() || !bytes.Equal(d.Image(), image) {
			t.Errorf("From of %d sectors: Sectors %d, IsOn %v, or other bytes", n, d.Sectors(), d.IsOn())
		}
		wantDone(t, d, 0)
		for i := range n {
			wantSector(t, d, i, counting(i*7))
		}
		wantUnarmed(t, d)
	}
}

func TestP103Read(t *testing.T) {
	d := fresh(t, 3)
	for i := range 3 {
		wantErr(t, "Write", d.Write(i, counting(i)), api.OK)
	}
	for i := range 3 {
		wantSector(t, d, i, counting(i))
	}
	wrong := []int{-1, 3, 4, math.MinInt, math.MaxInt}
	for _, n := range wrong {
		if b, err := d.Read(n); len(b) != 0 || err != api.ErrSector {
			t.Errorf("Read(%d): %d bytes, %d; want ErrSector", n, len(b), err)
		}
	}
	wantDone(t, d, 3, 0, 1, 2)
	d.Off()
	for _, n := range append(wrong, 0, 1, 2) {
		if b, err := d.Read(n); len(b) != 0 || err != api.ErrDown {
			t.Errorf("Read(%d) while off: %d bytes, %d; want ErrDown", n, len(b), err)
		}
	}
}

func TestP104Write(t *testing.T) {
	d := fresh(t, 3)
	wantErr(t, "Write", d.Write(1, counting(3)), api.OK)
	wantSector(t, d, 0, full(0))
	wantSector(t, d, 1, counting(3))
	wantSector(t, d, 2, full(0))
	wantErr(t, "Write over it", d.Write(1, counting(4)), api.OK)
	wantSector(t, d, 1, counting(4))
	wantDone(t, d, 2, 1, 1)
}

func TestP104WriteRefused(t *testing.T) {
	d := fresh(t, 3)
	wantErr(t, "Write", d.Write(1, full('a')), api.OK)
	image := d.Image()
	d.Arm(0, 7) // a refused write is none of those that Arm counts
	for _, n := range []int{-1, 3, math.MinInt, math.MaxInt} {
		for _, b := range [][]byte{nil, full('b')[:511], full('b')} {
			wantErr(t, "Write of no sector", d.Write(n, b), api.ErrSector)
		}
	}
	wrong := [][]byte{nil, {}, full('b')[:1], full('b')[:511], append(full('b'), 'b'), make([]byte, 1024)}
	for _, b := range wrong {
		wantErr(t, "Write of other than 512 bytes", d.Write(1, b), api.ErrArg)
	}
	wantDone(t, d, 1, 1)
	if !d.IsOn() || !bytes.Equal(d.Image(), image) {
		t.Error("a refused write changed the disk")
	}
	d.Off()
	for _, n := range []int{-1, 1, 3} {
		for _, b := range append(wrong, full('b')) {
			wantErr(t, "Write while off", d.Write(n, b), api.ErrDown)
		}
	}
	wantDone(t, d, 1, 1)
	if !bytes.Equal(d.Image(), image) {
		t.Error("a write while the disk was off changed it")
	}
}

// TestP105EveryTear: each count of bytes, behind none and behind some whole writes.
func TestP105EveryTear(t *testing.T) {
	old, next := counting(0), counting(100)
	for after := range 4 {
		for torn := -2; torn <= api.SectorSize+2; torn++ {
			d := fresh(t, 2)
			wantErr(t, "Write", d.Write(1, old), api.OK)
			d.Arm(after, torn)
			for range after {
				wantErr(t, "Write ahead of the tear", d.Write(0, next), api.OK)
			}
			wantErr(t, "the torn Write", d.Write(1, next), api.ErrDown)
			if d.IsOn() || d.Writes() != after+2 {
				t.Errorf("Arm(%d, %d): IsOn %v, Writes %d", after, torn, d.IsOn(), d.Writes())
			}
			n := min(max(torn, 0), api.SectorSize)
			if !bytes.Equal(d.Image()[api.SectorSize:], append(slices.Clone(next[:n]), old[n:]...)) {
				t.Errorf("Arm(%d, %d): other bytes than the first %d are new", after, torn, n)
			}
			d.On()
			wantUnarmed(t, d)
		}
	}
}

func TestP105ArmAnew(t *testing.T) {
	d := fresh(t, 1)
	d.Arm(0, 9)
	d.Arm(-1, 9)
	wantUnarmed(t, d)
	d.Arm(0, 9)
	d.Arm(math.MinInt, 9)
	wantUnarmed(t, d)
	d.Arm(0, 9)
	d.Arm(1, 3)
	wantErr(t, "Write", d.Write(0, full('a')), api.OK)
	wantErr(t, "Write", d.Write(0, full('b')), api.ErrDown)
	d.On()
	wantSector(t, d, 0, append([]byte("bbb"), full('a')[3:]...))
	d.Arm(2, 0)
	wantErr(t, "Write", d.Write(0, full('c')), api.OK)
	d.Arm(1, 0) // counted from here on, not from the Arm ahead of it
	wantErr(t, "Write", d.Write(0, full('d')), api.OK)
	wantErr(t, "Write", d.Write(0, full('e')), api.ErrDown)
	d.On()
	wantSector(t, d, 0, full('d'))
}

func TestP105ArmBounds(t *testing.T) {
	d := fresh(t, 1)
	d.Arm(math.MaxInt, 0)
	wantUnarmed(t, d)
	d.Arm(0, math.MaxInt)
	wantErr(t, "Write", d.Write(0, counting(1)), api.ErrDown)
	d.On()
	wantSector(t, d, 0, counting(1))
	d.Arm(0, math.MinInt)
	wantErr(t, "Write", d.Write(0, counting(2)), api.ErrDown)
	d.On()
	wantSector(t, d, 0, counting(1))
}

func TestP105ArmWhileOff(t *testing.T) {
	d := fresh(t, 1)
	d.Off()
	d.Arm(0, 0)
	if d.IsOn() {
		t.Error("Arm gave the power back")
	}
	d.On()
	wantUnarmed(t, d)
}

func TestP106OffAndOn(t *testing.T) {
	d := fresh(t, 2)
	wantErr(t, "Write", d.Write(1, counting(5)), api.OK)
	image := d.Image()
	for range 2 {
		d.Off()
		if d.IsOn() {
			t.Error("on behind Off")
		}
	}
	for range 2 {
		d.On()
		if !d.IsOn() {
			t.Error("off behind On")
		}
	}
	if !bytes.Equal(d.Image(), image) {
		t.Error("Off and On changed the bytes")
	}
	wantDone(t, d, 1, 1)
	d.Arm(1, 0)
	d.On()
	wantErr(t, "Write", d.Write(0, full('a')), api.OK)
	d.On()
	wantErr(t, "what was armed stays behind On", d.Write(0, full('b')), api.ErrDown)
	d.On()
	d.Arm(0, 0)
	d.Off()
	d.On()
	wantUnarmed(t, d)
}

func TestP107WritesAndTrace(t *testing.T) {
	d := fresh(t, 200)
	var all []int
	for i := range 3*api.MaxTrace + 5 {
		sector := i * 7 % 200
		wantErr(t, "Write", d.Write(sector, full(byte(i))), api.OK)
		all = append(all, sector)
		wantDone(t, d, len(all), all[max(0, len(all)-api.MaxTrace):]...)
	}
	d.Arm(0, 0) // a torn write counts, though no byte of it is there
	wantErr(t, "Write", d.Write(199, full(1)), api.ErrDown)
	all = append(all, 199)
	wantDone(t, d, len(all), all[len(all)-api.MaxTrace:]...)
	wantErr(t, "Write", d.Write(198, full(1)), api.ErrDown)
	d.On()
	wantDone(t, d, len(all), all[len(all)-api.MaxTrace:]...)
}

func TestP108Image(t *testing.T) {
	d := fresh(t, 3)
	want := make([]byte, 3*api.SectorSize)
	for _, i := range []int{2, 0, 1} {
		wantErr(t, "Write", d.Write(i, counting(i*50)), api.OK)
		copy(want[i*api.SectorSize:], counting(i*50))
		if !bytes.Equal(d.Image(), want) {
			t.Errorf("Image behind Write(%d)", i)
		}
	}
	d.Arm(5, 5)
	d.Off()
	image := d.Image()
	if !bytes.Equal(image, want) {
		t.Error("Image while off")
	}
	again, err := From(image)
	if again == nil || err != api.OK {
		t.Fatalf("From(Image()): %d", err)
	}
	if !bytes.Equal(again.Image(), want) || !again.IsOn() {
		t.Error("From(Image()) is another disk")
	}
	wantDone(t, again, 0)
}

// roomy: these bytes, with spare room behind them that is filled too.
func roomy(b []byte) []byte {
	return append(slices.Clone(b), bytes.Repeat([]byte{'s'}, 700)...)[:len(b)]
}

func TestP109HandedIn(t *testing.T) {
	image := roomy(append(counting(1), counting(2)...))
	before := slices.Clone(image[:cap(image)])
	d, err := From(image)
	if d == nil || err != api.OK {
		t.Fatalf("From: %d", err)
	}
	b := roomy(counting(3))
	written := slices.Clone(b[:cap(b)])
	wantErr(t, "Write", d.Write(0, b), api.OK)
	d.Arm(0, 9)
	wantErr(t, "Write", d.Write(1, b), api.ErrDown)
	d.On()
	wantErr(t, "Write", d.Write(1, roomy(full(7)[:511])), api.ErrArg)
	if !bytes.Equal(image[:cap(image)], before) || !bytes.Equal(b[:cap(b)], written) {
		t.Error("what was handed in has changed")
	}
	clear(image[:cap(image)])
	clear(b[:cap(b)])
	wantSector(t, d, 0, counting(3))
	wantSector(t, d, 1, append(counting(3)[:9:9], counting(2)[9:]...))
}

func TestP109Answered(t *testing.T) {
	d := fresh(t, 3)
	for i := range 3 {
		wantErr(t, "Write", d.Write(i, counting(i)), api.OK)
	}
	image := d.Image()
	for range 2 { // spoilt answers are neither the disk's memory nor that of a later answer
		b, _ := d.Read(1)
		clear(b[:cap(b)])
		l := d.Trace()
		clear(l[:cap(l)])
		m := d.Image()
		clear(m[:cap(m)])
		for i := range 3 {
			wantSector(t, d, i, counting(i))
		}
		wantDone(t, d, 3, 0, 1, 2)
		if !bytes.Equal(d.Image(), image) {
			t.Error("an answer shares memory with the disk")
		}
	}
	b, _ := d.Read(0)
	wantErr(t, "Write", d.Write(0, full('x')), api.OK)
	if !bytes.Equal(b, counting(0)) || !bytes.Equal(image[:api.SectorSize], counting(0)) {
		t.Error("a write changed what had been answered")
	}
}

func TestP109TwoDisks(t *testing.T) {
	image := append(counting(1), counting(2)...)
	a, _ := From(image)
	b, _ := From(image)
	a.Arm(1, 4)
	wantErr(t, "Write", b.Write(0, full('b')), api.OK)
	wantErr(t, "Write", b.Write(1, full('b')), api.OK)
	wantDone(t, a, 0)
	wantSector(t, a, 0, counting(1))
	wantErr(t, "Write", a.Write(0, full('a')), api.OK)
	wantErr(t, "Write", a.Write(1, full('a')), api.ErrDown)
	if !b.IsOn() {
		t.Error("one disk's power put another's off")
	}
	wantDone(t, b, 2, 0, 1)
	wantSector(t, b, 0, full('b'))
	wantSector(t, b, 1, full('b'))
}

// TestExamples: the chapter's table, row by row.
func TestExamples(t *testing.T) {
	a, b, c := full('a'), full('b'), full('c')
	d := fresh(t, 3)
	wantErr(t, "Write(1, A)", d.Write(1, a), api.OK)
	wantErr(t, "Write(3, A)", d.Write(3, a), api.ErrSector)
	wantErr(t, "Write(-1, nothing)", d.Write(-1, nil), api.ErrSector)
	wantErr(t, "Write(0, 511 bytes)", d.Write(0, a[:511]), api.ErrArg)
	wantDone(t, d, 1, 1)
	d.Arm(1, 2)
	wantErr(t, "Write(0, B)", d.Write(0, b), api.OK)
	wantErr(t, "Write(1, C)", d.Write(1, c), api.ErrDown)
	wantErr(t, "Write(1, C)", d.Write(1, c), api.ErrDown)
	wantDone(t, d, 3, 1, 0, 1)
	for _, n := range []int{1, 9} {
		_, err := d.Read(n)
		wantErr(t, "Read while off", err, api.ErrDown)
	}
	d.On()
	wantSector(t, d, 1, append([]byte("cc"), a[2:]...))
	d.Arm(0, 9)
	d.Arm(-1, 9)
	wantErr(t, "Write(2, B)", d.Write(2, b), api.OK)
	d.Arm(0, 999)
	wantErr(t, "Write(2, C)", d.Write(2, c), api.ErrDown)
	d.Arm(0, 0)
	d.On()
	wantSector(t, d, 2, c)
	wantErr(t, "Write(2, A)", d.Write(2, a), api.OK)
}
