package coord

import (
	"testing"

	"rookery/api"
)

// TestExamples: the chapter's table, row by row.
func TestExamples(t *testing.T) {
	for _, x := range []struct {
		me, gap int
		want    api.Errno
	}{{8, 4, api.ErrNode}, {0, 65, api.ErrArg}} {
		if c, err := New(x.me, x.gap); c != nil || err != x.want {
			t.Errorf("New(%d, %d): %v, %d", x.me, x.gap, c != nil, err)
		}
	}
	c, w := fresh(t, 0, 4), wr(0, 1)
	put(t, c, 7, w, 2, false, stores(7, w), arm(7))
	on(t, c, stored(7, 1, 1), done(7, nil, w))
	wantOpen(t, c, 7, true)
	on(t, c, stored(7, 1, 1))
	on(t, c, stored(7, 3, 2))
	at(t, c, 7)
	wantOpen(t, c, 7, false)
	at(t, c, 7)

	put(t, c, 7, w, 3, true, stores(7, w), arm(7))
	at(t, c, 7, send(keep(7, 3, 2, w), keep(7, 4, 1, w)), arm(7))
	on(t, c, stored(7, 3, 2))
	on(t, c, stored(7, 4, 2))
	on(t, c, stored(7, 1, 1), done(7, nil, w))
	wantOpen(t, c, 7, false)

	put(t, c, 8, w, 2, true, stores(8, w), arm(8))
	at(t, c, 8, send(keep(8, 3, 2, w), keep(8, 4, 1, w)), arm(8))
	at(t, c, 8, failed(8))

	got, err := c.Put(9, w, []int{0}, []int{2, 1}, 1, true)
	wantActs(t, "Put 9", got, err, done(9, nil, w))
}

func TestExamplesRefused(t *testing.T) {
	c, w := fresh(t, 0, 4), wr(0, 1)
	put(t, c, 7, w, 2, false, stores(7, w), arm(7))
	for _, x := range []struct {
		call, quorum int
		prefer       []int
		want         api.Errno
	}{
		{0, 2, prefer(), api.ErrArg},
		{9, 2, []int{2, 1}, api.ErrMine},
		{9, 2, []int{0, 0}, api.ErrArg},
		{9, 4, prefer(), api.ErrArg},
		{7, 2, prefer(), api.ErrCall},
	} {
		got, err := c.Put(x.call, w, x.prefer, standins(), x.quorum, false)
		wantRefused(t, "Put", got, err, x.want)
	}
}

func TestExamplesGet(t *testing.T) {
	c, w := fresh(t, 0, 4), wr(0, 1)
	get(t, c, 5, 1, false, list(w), spans(sp(0, 1)), asks(5), done(5, spans(sp(0, 1)), w))
	wantOpen(t, c, 5, false)

	get(t, c, 6, 2, false, list(w), spans(sp(0, 1)), asks(6), arm(6))
	u := wr(2, 3, sp(0, 1))
	on(t, c, tell(6, 2, spans(sp(0, 1), sp(2, 3)), u), done(6, spans(sp(0, 1), sp(2, 3)), u))

	get(t, c, 6, 2, false, list(w), spans(sp(0, 1)), asks(6), arm(6))
	on(t, c, tell(6, 2, nil, wr(2, 1)), send(store(0, 2, w)), done(6, spans(sp(0, 1), sp(2, 1)), w, wr(2, 1)))

	get(t, c, 6, 3, true, nil, nil, asks(6), arm(6))
	at(t, c, 6, send(seek(6, 3, 2, "k"), seek(6, 4, 1, "k")), arm(6))
	on(t, c, found(6, 3, 2, wr(1, 9)))
	on(t, c, tell(6, 1, nil), done(6, nil))
	wantOpen(t, c, 6, false)
}
