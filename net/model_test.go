package net

import (
	"math/rand"
	"slices"
	"testing"

	"rookery/api"
)

// model is the chapter's words once more, as plainly as can be: a list, made anew by each call that changes it.
type model struct {
	room int
	list []api.Letter
	sent, lost, delivered,
	dropped, doubled int
}

func (m *model) has(i int) bool { return i >= 0 && i < len(m.list) }

func (m *model) add(l api.Letter) bool {
	if len(m.list) == m.room {
		return false
	}
	m.list = append(slices.Clone(m.list), l)
	return true
}

func (m *model) without(i int) []api.Letter {
	return append(slices.Clone(m.list[:i]), m.list[i+1:]...)
}

func (m *model) send(l api.Letter) api.Errno {
	if !m.add(l) {
		m.lost++
		return api.ErrLost
	}
	m.sent++
	return api.OK
}

// take: Deliver and Drop, which differ in what they count.
func (m *model) take(i int, counted *int) (api.Letter, api.Errno) {
	if !m.has(i) {
		return api.Letter{}, api.ErrIndex
	}
	l := m.list[i]
	m.list = m.without(i)
	*counted++
	return l, api.OK
}

func (m *model) double(i int) api.Errno {
	if !m.has(i) {
		return api.ErrIndex
	}
	if !m.add(m.list[i]) {
		return api.ErrLost
	}
	m.doubled++
	return api.OK
}

func (m *model) move(i, j int) api.Errno {
	if !m.has(i) || !m.has(j) {
		return api.ErrIndex
	}
	m.list = slices.Insert(m.without(i), j, m.list[i])
	return api.OK
}

// play does one step with both and says whether they answered alike.
func play(r *rand.Rand, b *Bag, m *model) bool {
	i, j := r.Intn(len(m.list)+2)-1, r.Intn(len(m.list)+2)-1
	switch r.Intn(9) {
	case 0:
		got, err := b.Deliver(i)
		want, refused := m.take(i, &m.delivered)
		return err == refused && same(got, want)
	case 1:
		_, refused := m.take(i, &m.dropped)
		return b.Drop(i) == refused
	case 2:
		return b.Double(i) == m.double(i)
	case 3, 4:
		return b.Move(i, j) == m.move(i, j)
	}
	l := api.Letter{From: r.Intn(4) - 1, To: r.Intn(4) - 1, Data: make([]byte, r.Intn(4))}
	r.Read(l.Data)
	return b.Send(l) == m.send(l)
}

// agree: all that is to be seen of the bag, and P1006's sum.
func agree(b *Bag, m *model) bool {
	for node := -2; node < 4; node++ {
		var places []int
		for i, l := range m.list {
			if l.To == node {
				places = append(places, i)
			}
		}
		if !slices.Equal(b.To(node), places) {
			return false
		}
	}
	c := b.Counts()
	return slices.EqualFunc(letters(b), m.list, same) && b.Len() == len(m.list) &&
		c == [5]int{m.sent, m.lost, m.delivered, m.dropped, m.doubled} &&
		c[0]+c[4] == b.Len()+c[2]+c[3]
}

// TestAgainstModel: P1001 to P1006 in any order of calls.
func TestAgainstModel(t *testing.T) {
	for seed := range int64(100) {
		r := rand.New(rand.NewSource(seed))
		room := 1 + r.Intn([]int{3, 12, api.MaxBag}[seed%3])
		b, m := fresh(t, room), &model{room: room}
		for step := range 600 {
			if !play(r, b, m) {
				t.Fatalf("seed %d, step %d: another answer", seed, step)
			}
			if !agree(b, m) {
				t.Fatalf("seed %d, step %d: the bag %v, Counts %v; want %v", seed, step, letters(b), b.Counts(), *m)
			}
		}
	}
}
