package heap

import (
	"math/rand"
	"slices"
	"testing"

	"rookery/api"
)

// card is ordered by rank alone: mark tells apart cards that are alike.
type card struct{ rank, mark int }

func lower(a, b card) bool { return a.rank < b.rank }

// insert puts x behind all that are not greater: the row as P201 says it.
func insert(row []card, x card) []card {
	i := len(row)
	for i > 0 && lower(x, row[i-1]) {
		i--
	}
	return slices.Insert(row, i, x)
}

// TestHeapAgainstModel: P201 to P205 in any order of calls, against a list that is kept in its row.
func TestHeapAgainstModel(t *testing.T) {
	for seed := range int64(80) {
		r := rand.New(rand.NewSource(seed))
		h, ranks := New(lower), 1+r.Intn(12)
		var row []card
		for step := range 400 {
			k := 0
			switch r.Intn(5) {
			case 0, 1:
				x := card{r.Intn(ranks), step}
				h.Push(x)
				row = insert(row, x)
				k = -1
			case 2:
				k = r.Intn(len(row)+3) - 1
			case 3:
				if x, ok := h.Pop(); ok != (len(row) > 0) || ok && x != row[0] {
					t.Fatalf("seed %d, step %d: Pop %v, %v", seed, step, x, ok)
				}
				row = row[min(1, len(row)):]
				k = -1
			default:
				k = -1
			}
			x, ok := h.Take(k)
			if ok != (k >= 0 && k < len(row)) || ok && x != row[k] || !ok && x != (card{}) {
				t.Fatalf("seed %d, step %d: Take(%d) %v, %v of %v", seed, step, k, x, ok, row)
			}
			if ok {
				row = slices.Delete(row, k, k+1)
			}
			least, ok := h.Least()
			if ok != (len(row) > 0) || ok && least != row[0] {
				t.Fatalf("seed %d, step %d: Least %v, %v of %v", seed, step, least, ok, row)
			}
			if all := h.All(); !slices.Equal(all, row) || h.Len() != len(row) {
				t.Fatalf("seed %d, step %d: All %v, Len %d; want %v", seed, step, all, h.Len(), row)
			}
		}
	}
}

// TestQueueAgainstModel: P206 to P208 in any order of calls, against a list that is sorted each time.
func TestQueueAgainstModel(t *testing.T) {
	for seed := range int64(80) {
		r := rand.New(rand.NewSource(seed))
		q := NewQueue()
		var want []api.Timer
		armed, now := 0, 0
		for step := range 300 {
			switch r.Intn(4) {
			case 0, 1:
				x := timer(r.Intn(20)-8, armed+1, r.Intn(5)-1, r.Intn(9))
				if n := q.Arm(x.Due, x.Kind, x.Call); n != armed+1 {
					t.Fatalf("seed %d, step %d: Arm %d; want %d", seed, step, n, armed+1)
				}
				armed++
				want = append(want, x)
			case 2:
				number := r.Intn(armed+3) - 1
				i := slices.IndexFunc(want, func(x api.Timer) bool { return x.Number == number })
				if q.Cancel(number) != (i >= 0) {
					t.Fatalf("seed %d, step %d: Cancel(%d)", seed, step, number)
				}
				want = slices.DeleteFunc(want, func(x api.Timer) bool { return x.Number == number })
			default:
				k := r.Intn(len(want)+3) - 1
				x, ok := q.Fire(k)
				if has := k >= 0 && k < len(want); ok != has || !has && x != (api.Timer{}) || has && x != want[k] {
					t.Fatalf("seed %d, step %d: Fire(%d) %v, %v of %v", seed, step, k, x, ok, want)
				}
				if ok {
					want = slices.Delete(want, k, k+1)
					now = max(now, x.Due)
				}
			}
			slices.SortFunc(want, func(a, b api.Timer) int {
				if a.Due != b.Due {
					return a.Due - b.Due
				}
				return a.Number - b.Number
			})
			if l := q.List(); !slices.Equal(l, want) || q.Now() != now {
				t.Fatalf("seed %d, step %d: List %v, Now %d; want %v, %d", seed, step, l, q.Now(), want, now)
			}
		}
	}
}
