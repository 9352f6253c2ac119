package node

import (
	"strings"
	"testing"

	"rookery/api"
)

// TestExamples: the chapter's table, row by row.
func TestExamples(t *testing.T) {
	all := world(t, three())
	p, q, s := all[atP], all[atQ], all[atS]
	p.wantTimers(tm(30, 1, 3, 0), tm(50, 2, 2, 0))
	if gen := p.n.See().State.Gen; gen != 1 {
		t.Errorf("Gen %d", gen)
	}

	v := []byte("v")
	s.wantNo("Put at s", api.ErrMine, func() (api.Acts, api.Errno) { return s.n.Put(1, "k", false, v, nil, 1, false) })
	s.wantNo("Get at s", api.ErrMine, func() (api.Acts, api.Errno) { return s.n.Get(1, "k", 1, false) })
	for _, x := range []struct {
		what   string
		call   int
		key    string
		dead   bool
		value  []byte
		quorum int
		want   api.Errno
	}{
		{"no key", 1, "", false, v, 1, api.ErrKey},
		{"a key of 17 bytes", 1, strings.Repeat("k", 17), false, v, 1, api.ErrKey},
		{"a value of 65 bytes", 1, "k", false, make([]byte, 65), 1, api.ErrLong},
		{"dead with a value", 1, "k", true, v, 1, api.ErrArg},
		{"quorum 3", 1, "k", false, v, 3, api.ErrArg},
		{"call 0", 0, "k", false, v, 1, api.ErrArg},
	} {
		p.wantNo(x.what, x.want, func() (api.Acts, api.Errno) {
			return p.n.Put(x.call, x.key, x.dead, x.value, nil, x.quorum, false)
		})
	}

	w := wr("k", atP, 1)
	store := msgStore(atP, atQ, 1, w)
	p.want("Put", send(store))(p.n.Put(1, "k", false, v, nil, 2, false))
	p.wantTimers(tm(20, 3, 1, 1), tm(30, 1, 3, 0), tm(50, 2, 2, 0))
	p.wantNo("Get of the same number", api.ErrCall, func() (api.Acts, api.Errno) { return p.n.Get(1, "k", 1, false) })

	stored := msgStored(atQ, atP, 1, atQ)
	q.handle(store, send(stored))
	q.wantRead("k", w)
	q.wantClock(0, sp(atP, 1))
	p.handle(stored, done(doneOK(1, w)))

	p.want("Fire of an ended call's timer", api.Acts{})(p.n.Fire(0))
	clock := msgClock(atP, atQ, 0, sp(atP, 1))
	p.want("Fire of TimeSync", send(clock))(p.n.Fire(0))
	p.wantTimers(tm(50, 2, 2, 0), tm(60, 4, 3, 0))
	q.handle(clock, api.Acts{})
	q.handle(store, send(stored))

	b := bytesOf(t, store)
	s.wantNo("a message to q", api.ErrMsg, func() (api.Acts, api.Errno) { return s.n.Handle(b) })
	p.wantNo("three bytes", api.ErrWire, func() (api.Acts, api.Errno) { return p.n.Handle([]byte{1, 2, 3}) })
}
