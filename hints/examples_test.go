package hints

import (
	"testing"

	"rookery/api"
)

// TestExamples: the chapter's table, row by row.
func TestExamples(t *testing.T) {
	s, o := fresh(t, three(), 0), fresh(t, three(), 2)
	w := wr(1, 4)

	a, err := s.h.Keep(keep(1, 0, 9, 2, w))
	wantActs(t, "Keep", a, err, stored(0, 1, 9, 2))
	s.wantHints(t, "Keep", hint(2, w))

	wrote := s.d.Writes()
	a, err = s.h.Keep(keep(1, 0, 9, 2, w))
	wantActs(t, "Keep once more", a, err, stored(0, 1, 9, 2))
	if s.d.Writes() != wrote {
		t.Errorf("Keep once more: %d raw writes", s.d.Writes()-wrote)
	}

	s.wantNo(t, "Keep with Owner 0", api.ErrNode, func() (api.Acts, api.Errno) { return s.h.Keep(keep(1, 0, 9, 0, w)) })
	s.wantNo(t, "Keep of another write", api.ErrHints, func() (api.Acts, api.Errno) { return s.h.Keep(keep(1, 0, 9, 2, wr(1, 5))) })

	a, err = s.h.Seek(seek(1, 0, 3, 2, "k"))
	wantActs(t, "Seek", a, err, found(0, 1, 3, 2, "k", w))
	a, err = s.h.Seek(seek(1, 0, 3, 1, "k"))
	wantActs(t, "Seek for 1", a, err, found(0, 1, 3, 1, "k"))

	a, err = s.h.Time()
	wantActs(t, "Time", a, err, back(0, 2, w))
	for range 2 {
		b, err := o.h.Back(a.Send[0])
		wantActs(t, "Back", b, err, took(2, 0, "k", dot(1, 4)))
		wantWrites(t, "Back", o.s.Read("k"), w)
	}

	a, err = s.h.Took(took(1, 0, "k", dot(1, 4)))
	wantActs(t, "Took from 1", a, err)
	s.wantHints(t, "Took from 1", hint(2, w))
	a, err = s.h.Took(took(2, 0, "k", dot(1, 4)))
	wantActs(t, "Took from 2", a, err)
	s.wantHints(t, "Took from 2")

	s.wantNo(t, "Keep of a MsgStore", api.ErrMsg, func() (api.Acts, api.Errno) {
		return s.h.Keep(api.Msg{Kind: api.MsgStore, From: 1, Call: 9, Writes: list(w)})
	})
	s.wantNo(t, "Keep with To 1", api.ErrMsg, func() (api.Acts, api.Errno) { return s.h.Keep(keep(1, 1, 9, 2, w)) })
	s.wantNo(t, "Took with From 3", api.ErrMsg, func() (api.Acts, api.Errno) { return s.h.Took(took(3, 0, "k", dot(1, 4))) })
	s.wantNo(t, "Back at the stand-in", api.ErrMine, func() (api.Acts, api.Errno) { return s.h.Back(back(2, 0, w)) })
}
