package heap

import (
	"math"
	"slices"
	"testing"

	"rookery/api"
)

func timer(due, number, kind, call int) api.Timer {
	return api.Timer{Due: due, Number: number, Kind: kind, Call: call}
}

func queue(t *testing.T, dues ...int) *Queue {
	t.Helper()
	q := NewQueue()
	if q == nil {
		t.Fatal("NewQueue: nil")
	}
	for i, due := range dues {
		wantNumber(t, q.Arm(due, api.TimeCall, 0), i+1)
	}
	return q
}

func wantNumber(t *testing.T, got, want int) {
	t.Helper()
	if got != want {
		t.Errorf("Arm: %d; want %d", got, want)
	}
}

// wantNumbers: the numbers of List, in its order.
func wantNumbers(t *testing.T, q *Queue, want ...int) {
	t.Helper()
	var got []int
	for _, x := range q.List() {
		got = append(got, x.Number)
	}
	if !slices.Equal(got, want) {
		t.Errorf("List has the numbers %v; want %v", got, want)
	}
}

func wantNow(t *testing.T, q *Queue, want int) {
	t.Helper()
	if q.Now() != want {
		t.Errorf("Now %d; want %d", q.Now(), want)
	}
}

func wantFired(t *testing.T, q *Queue, k int, want api.Timer) {
	t.Helper()
	x, ok := q.Fire(k)
	wantThing(t, "Fire", x, ok, want)
}

func wantCancel(t *testing.T, q *Queue, number int, want bool) {
	t.Helper()
	if got := q.Cancel(number); got != want {
		t.Errorf("Cancel(%d): %v; want %v", number, got, want)
	}
}

func TestP206NewQueue(t *testing.T) {
	q := queue(t)
	wantNumbers(t, q)
	wantNow(t, q, 0)
	x, ok := q.Fire(0)
	wantNone(t, "Fire of no timer", x, ok)
	wantCancel(t, q, 1, false)
}

// TestP206AnyInts: kinds and calls need mean nothing; nothing is lost at the ends of the ints.
func TestP206AnyInts(t *testing.T) {
	q := queue(t)
	wantNumber(t, q.Arm(math.MaxInt, math.MinInt, math.MaxInt), 1)
	wantNumber(t, q.Arm(math.MinInt, 0, -1), 2)
	wantNumber(t, q.Arm(0, -7, math.MinInt), 3)
	want := []api.Timer{timer(math.MinInt, 2, 0, -1), timer(0, 3, -7, math.MinInt), timer(math.MaxInt, 1, math.MinInt, math.MaxInt)}
	if l := q.List(); !slices.Equal(l, want) {
		t.Errorf("List %v; want %v", l, want)
	}
	wantFired(t, q, 2, want[2])
	wantNow(t, q, math.MaxInt)
	wantFired(t, q, 0, want[0])
	wantNow(t, q, math.MaxInt)
}

// TestP206NumbersGoOn: fired and cancelled timers don't give their numbers back.
func TestP206NumbersGoOn(t *testing.T) {
	q := queue(t, 5, 5, 5)
	q.Cancel(3)
	wantNumber(t, q.Arm(5, 1, 1), 4)
	q.Fire(0)
	q.Fire(9)
	q.Cancel(77)
	wantNumber(t, q.Arm(5, 1, 1), 5)
	for len(q.List()) > 0 {
		q.Fire(0)
	}
	wantNumber(t, q.Arm(5, 1, 1), 6)
}

// TestP206Order: by Due, then by Number, whatever kind and call say.
func TestP206Order(t *testing.T) {
	q := queue(t)
	for i, a := range [][3]int{{9, 3, 9}, {9, 2, 8}, {1, 3, 7}, {9, 1, 6}, {1, 1, 5}, {-1, 2, 4}} {
		wantNumber(t, q.Arm(a[0], a[1], a[2]), i+1)
	}
	wantNumbers(t, q, 6, 3, 5, 1, 2, 4)
	q.Cancel(1)
	q.Arm(9, 0, 0)
	q.Arm(1, 0, 0)
	wantNumbers(t, q, 6, 3, 5, 8, 2, 4, 7)
}

func TestP207Cancel(t *testing.T) {
	q := queue(t, 4, 2, 4, 1)
	for _, n := range []int{0, -1, 5, math.MaxInt, math.MinInt} {
		wantCancel(t, q, n, false)
	}
	wantNumbers(t, q, 4, 2, 1, 3)
	wantCancel(t, q, 2, true)
	wantCancel(t, q, 2, false)
	wantNumbers(t, q, 4, 1, 3)
	q.Fire(1)
	wantCancel(t, q, 1, false)
	wantCancel(t, q, 4, true)
	wantCancel(t, q, 3, true)
	wantNumbers(t, q)
	wantNow(t, q, 4)
}

// TestP207CancelEvery: of queues of every length up to 20 each timer is cancelled by itself; the others stand as they stood.
func TestP207CancelEvery(t *testing.T) {
	for n := range 21 {
		for number := 1; number <= n; number++ {
			q := queue(t)
			for i := range n {
				q.Arm(i*11%n/2, 1, i)
			}
			want := slices.DeleteFunc(q.List(), func(x api.Timer) bool { return x.Number == number })
			wantCancel(t, q, number, true)
			if l := q.List(); !slices.Equal(l, want) {
				t.Fatalf("%d timers without number %d: %v; want %v", n, number, l, want)
			}
			for _, x := range want {
				wantFired(t, q, 0, x)
			}
		}
	}
}

// TestP207CancelRises: the timer that fills the place of a cancelled one may belong further up, from the place beside it too.
func TestP207CancelRises(t *testing.T) {
	for _, s := range []struct {
		dues   []int
		number int
		want   []int
	}{
		{[]int{0, 100, 10, 110, 120, 20, 30, 130, 140, 150, 160, 25}, 4, []int{1, 3, 6, 12, 7, 2, 5, 8, 9, 10, 11, 13, 14}},
		{[]int{0, 50, 10, 60, 70, 20}, 5, []int{1, 3, 6, 2, 4, 7, 8}},
	} {
		q := queue(t, s.dues...)
		wantCancel(t, q, s.number, true)
		q.Arm(200, 1, 1) // behind these the moved timer is not the last one, which the next Fire would mend
		q.Arm(201, 1, 1)
		wantNumbers(t, q, s.want...)
		for _, n := range s.want {
			if x, ok := q.Fire(0); !ok || x.Number != n {
				t.Errorf("Fire %v, %v; want number %d", x, ok, n)
			}
		}
	}
}

func TestP207Fire(t *testing.T) {
	q := queue(t)
	q.Arm(7, 2, 40)
	q.Arm(3, 1, 41)
	q.Arm(7, 3, 42)
	for _, k := range []int{-1, 3, math.MinInt, math.MaxInt} {
		x, ok := q.Fire(k)
		wantNone(t, "Fire of no timer", x, ok)
		wantNow(t, q, 0)
		wantNumbers(t, q, 2, 1, 3)
	}
	wantFired(t, q, 2, timer(7, 3, 3, 42))
	wantNumbers(t, q, 2, 1)
	wantFired(t, q, 0, timer(3, 2, 1, 41))
	wantFired(t, q, 0, timer(7, 1, 2, 40))
	x, ok := q.Fire(0)
	wantNone(t, "Fire when all are fired", x, ok)
}

func TestP208Now(t *testing.T) {
	q := queue(t, -5, -9, 3, 12, 8, 12)
	q.Fire(0)
	wantNow(t, q, 0)
	q.Fire(0)
	wantNow(t, q, 0)
	q.Fire(0)
	wantNow(t, q, 3)
	q.Fire(1)
	wantNow(t, q, 12)
	q.Fire(0)
	wantNow(t, q, 12)
	q.Arm(99, 1, 1)
	q.Cancel(7)
	q.Fire(5)
	wantNow(t, q, 12)
	q.Arm(1, 1, 1)
	q.Fire(0)
	wantNow(t, q, 12)
}

func TestP208ListNewMemory(t *testing.T) {
	q := queue(t, 2, 1)
	a, b := q.List(), q.List()
	for i := range a[:cap(a)] {
		a[:cap(a)][i] = timer(-9, -9, -9, -9)
	}
	wantNumbers(t, q, 2, 1)
	q.Arm(0, 1, 1)
	q.Fire(1)
	if !slices.Equal(b, []api.Timer{timer(1, 2, 1, 0), timer(2, 1, 1, 0)}) {
		t.Errorf("the list behind further calls: %v", b)
	}
	wantNumbers(t, q, 3, 1)
}

// TestP208NothingChanges: Now and List, asked as often as you like, leave the queue as it is.
func TestP208NothingChanges(t *testing.T) {
	q := queue(t, 6, 5, 6, 4)
	for range 5 {
		wantNow(t, q, 0)
		wantNumbers(t, q, 4, 2, 1, 3)
	}
	wantNumber(t, q.Arm(4, 0, 0), 5)
	wantNumbers(t, q, 4, 5, 2, 1, 3)
}

func TestP209Queues(t *testing.T) {
	a, b := queue(t, 5, 6), queue(t)
	wantNumber(t, b.Arm(1, 2, 3), 1)
	wantNumbers(t, a, 1, 2)
	a.Fire(1)
	wantNow(t, a, 6)
	wantNow(t, b, 0)
	wantCancel(t, b, 2, false)
	wantCancel(t, a, 1, true)
	wantNumbers(t, b, 1)
	wantNumber(t, a.Arm(0, 0, 0), 3)
	wantNumber(t, b.Arm(0, 0, 0), 2)
}

// TestExampleQueue: the chapter's second table, row by row.
func TestExampleQueue(t *testing.T) {
	q := queue(t)
	wantNumber(t, q.Arm(20, 1, 7), 1)
	wantNumber(t, q.Arm(5, 3, 0), 2)
	wantNumber(t, q.Arm(20, 2, 0), 3)
	wantNumber(t, q.Arm(-4, 1, 9), 4)
	want := []api.Timer{timer(-4, 4, 1, 9), timer(5, 2, 3, 0), timer(20, 1, 1, 7), timer(20, 3, 2, 0)}
	if l := q.List(); !slices.Equal(l, want) {
		t.Errorf("List %v; want %v", l, want)
	}
	wantFired(t, q, 0, timer(-4, 4, 1, 9))
	wantNow(t, q, 0)
	wantFired(t, q, 1, timer(20, 1, 1, 7))
	wantNow(t, q, 20)
	wantFired(t, q, 0, timer(5, 2, 3, 0))
	wantNow(t, q, 20)
	wantCancel(t, q, 3, true)
	wantCancel(t, q, 3, false)
	wantCancel(t, q, 1, false)
	x, ok := q.Fire(0)
	wantNone(t, "Fire(0)", x, ok)
	wantNumber(t, q.Arm(1, 1, 1), 5)
}
