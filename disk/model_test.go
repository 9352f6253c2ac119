package disk

import (
	"bytes"
	"math/rand"
	"slices"
	"testing"

	"rookery/api"
)

// model is the chapter's words once more, as plainly as can be: one long image, one long log, whole answers.
type model struct {
	image    []byte
	log      []int
	off      bool
	left     int // whole writes until the power fails; below 0: not armed
	tornSize int
}

func (m *model) refuse(sector int) api.Errno {
	switch {
	case m.off:
		return api.ErrDown
	case sector < 0 || sector*api.SectorSize >= len(m.image):
		return api.ErrSector
	}
	return api.OK
}

func (m *model) read(sector int) ([]byte, api.Errno) {
	if err := m.refuse(sector); err != api.OK {
		return nil, err
	}
	return m.image[sector*api.SectorSize : (sector+1)*api.SectorSize], api.OK
}

func (m *model) write(sector int, b []byte) api.Errno {
	if err := m.refuse(sector); err != api.OK {
		return err
	}
	if len(b) != api.SectorSize {
		return api.ErrArg
	}
	m.log = append(m.log, sector)
	m.left--
	if m.left == -1 {
		copy(m.image[sector*api.SectorSize:], b[:m.tornSize])
		m.off = true
		return api.ErrDown
	}
	m.left = max(m.left, -2)
	copy(m.image[sector*api.SectorSize:], b)
	return api.OK
}

func (m *model) arm(after, torn int) {
	if m.off {
		return
	}
	m.left = after
	if after < 0 {
		m.left = -2
	}
	m.tornSize = min(max(torn, 0), api.SectorSize)
}

// play does one step with both and says whether they answered alike.
func play(r *rand.Rand, d *Disk, m *model) bool {
	sector := r.Intn(d.Sectors()+2) - 1
	switch r.Intn(12) {
	case 0:
		after, torn := r.Intn(6)-1, r.Intn(api.SectorSize+20)-10
		d.Arm(after, torn)
		m.arm(after, torn)
	case 1:
		d.Off()
		m.off, m.left = true, -2
	case 2, 3:
		d.On()
		if m.off {
			m.off, m.left = false, -2
		}
	case 4, 5:
		got, err := d.Read(sector)
		want, refused := m.read(sector)
		return err == refused && bytes.Equal(got, want)
	default:
		b := make([]byte, api.SectorSize+max(0, r.Intn(20)-18))
		r.Read(b)
		return d.Write(sector, b) == m.write(sector, b)
	}
	return true
}

// TestAgainstModel: P101 to P108 in any order of calls.
func TestAgainstModel(t *testing.T) {
	for seed := range int64(60) {
		r := rand.New(rand.NewSource(seed))
		n := 1 + r.Intn(6)
		d := fresh(t, n)
		m := &model{image: make([]byte, n*api.SectorSize), left: -2}
		for step := range 400 {
			if !play(r, d, m) {
				t.Fatalf("seed %d, step %d: another answer", seed, step)
			}
			if d.IsOn() == m.off || d.Sectors() != n || d.Writes() != len(m.log) {
				t.Fatalf("seed %d, step %d: IsOn %v, Sectors %d, Writes %d", seed, step, d.IsOn(), d.Sectors(), d.Writes())
			}
			if !slices.Equal(d.Trace(), m.log[max(0, len(m.log)-api.MaxTrace):]) {
				t.Fatalf("seed %d, step %d: Trace %v", seed, step, d.Trace())
			}
			if !bytes.Equal(d.Image(), m.image) {
				t.Fatalf("seed %d, step %d: another image", seed, step)
			}
		}
	}
}
