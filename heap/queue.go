package heap

import (
	"slices"

	"rookery/api"
)

// Queue is timers, by when they are due.
type Queue struct {
	timers *Heap[api.Timer]
	armed  int // the last number that was given
	now    int
}

// NewQueue makes a queue without timers.
func NewQueue() *Queue { return &Queue{timers: New(sooner)} }

// sooner leaves the numbers out: they rise as timers are pushed, and of timers that are alike the heap has the first pushed ahead.
func sooner(a, b api.Timer) bool { return a.Due < b.Due }

// Arm adds a timer, and tells its number.
func (q *Queue) Arm(due, kind, call int) int {
	q.armed++
	q.timers.Push(api.Timer{Due: due, Number: q.armed, Kind: kind, Call: call})
	return q.armed
}

// Cancel takes a timer away.
func (q *Queue) Cancel(number int) bool {
	i := slices.IndexFunc(q.timers.entries, func(e entry[api.Timer]) bool { return e.thing.Number == number })
	if i < 0 {
		return false
	}
	q.timers.remove(i)
	return true
}

// Fire takes the k-th timer out, the one that is due first being 0.
func (q *Queue) Fire(k int) (api.Timer, bool) {
	t, ok := q.timers.Take(k)
	if ok {
		q.now = max(q.now, t.Due)
	}
	return t, ok
}

// Now tells when the last fired timer was due, the latest of them.
func (q *Queue) Now() int { return q.now }

// List tells all timers, the one that is due first ahead.
func (q *Queue) List() []api.Timer { return q.timers.All() }
