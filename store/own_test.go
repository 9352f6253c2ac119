package store

import (
	"math/rand"
	"reflect"
	"slices"
	"sync"
	"testing"

	"rookery/api"
	"rookery/disk"
)

// room: the same list with spare room, something in it.
func room[T any](l []T, mark T) []T {
	out := append(make([]T, 0, len(l)+3), l...)
	for i := len(l); i < cap(out); i++ {
		out[:cap(out)][i] = mark
	}
	return out
}

// all: a list with its spare room.
func all[T any](l []T) []T { return l[:cap(l)] }

// roomyWrite: the same write, whose lists have spare room.
func roomyWrite(w api.Write) api.Write {
	w.Value, w.Ctx = room(w.Value, 77), room(w.Ctx, sp(7, 7))
	return w
}

func roomyWrites(l []api.Write) []api.Write {
	var out []api.Write
	for _, w := range l {
		out = append(out, roomyWrite(w))
	}
	return room(out, roomyWrite(wr(7, 7, sp(6, 6))))
}

func roomyClocks(l []api.Clock) []api.Clock {
	var out []api.Clock
	for _, c := range l {
		out = append(out, api.Clock{Range: c.Range, Set: room(c.Set, sp(7, 7))})
	}
	return room(out, cl(7, sp(7, 7)))
}

// deep: all that is to be seen of lists, spare room and all, in memory of its own.
func deep(v reflect.Value) reflect.Value {
	out := reflect.New(v.Type()).Elem()
	switch v.Kind() {
	case reflect.Slice:
		if v.IsNil() {
			return out
		}
		v = v.Slice(0, v.Cap())
		out.Set(reflect.MakeSlice(v.Type(), v.Len(), v.Len()))
		for i := range v.Len() {
			out.Index(i).Set(deep(v.Index(i)))
		}
	case reflect.Struct:
		for i := range v.NumField() {
			out.Field(i).Set(deep(v.Field(i)))
		}
	default:
		out.Set(v)
	}
	return out
}

func whole(x any) any { return deep(reflect.ValueOf(x)).Interface() }

// spoil: writes into all that lies behind a value's lists, spare room and all; of lists within each first.
func spoil(v reflect.Value) {
	switch v.Kind() {
	case reflect.Slice:
		v = v.Slice(0, v.Cap())
		for i := range v.Len() {
			spoil(v.Index(i))
			switch x := v.Index(i); x.Kind() {
			case reflect.Uint8:
				x.SetUint(x.Uint() + 91)
			default:
				x.SetZero()
			}
		}
	case reflect.Struct:
		for i := range v.NumField() {
			spoil(v.Field(i))
		}
	}
}

func spoilt(x any) { spoil(reflect.ValueOf(x)) }

// wantUntouched: what was handed in to a call is as it was.
func wantUntouched[T any](t *testing.T, what string, x T, call func(x T)) {
	t.Helper()
	before := whole(x)
	call(x)
	if !reflect.DeepEqual(whole(x), before) {
		t.Errorf("%s changed what was handed in", what)
	}
}

// TestP911NothingIsChanged: neither by calls that are done, nor by refused ones, nor where the power fails.
func TestP911NothingIsChanged(t *testing.T) {
	rows := [][]api.Write{
		nil, list(wr(0, 1), wr(1, 1), wr(2, 2, sp(0, 1), sp(2, 1))), list(wr(2, 1), wr(0, 1)), list(wr(0, 1), wr(1, 1), of("a", wr(2, 1)), of("b", wr(2, 2))), list(wr(0, 1), wr(0, 2), wr(0, 3)), list(of("a", wr(0, 5, sp(0, 1, 4)))), list(gone(wr(2, 9, sp(1, 5)))),
	}
	for _, l := range rows {
		for _, after := range []int{-1, 0, 6} {
			for me := range 2 {
				s, d := fresh(t, three(), me)
				d.Arm(after, 200)
				wantUntouched(t, "Take", roomyWrites(l), func(l []api.Write) {
					wantUntouched(t, "Take", room(spans(sp(0, 5), sp(1, 1), sp(2, 4)), sp(7, 7)), func(set []api.Span) { s.Take(0, set, l) })
				})
				d.On()
				d.Arm(-1, 0)
				s = opened(t, d, three(), me)
				d.Arm(after, 200)
				for _, w := range l {
					wantUntouched(t, "Merge", roomyWrite(w), func(w api.Write) { s.Merge(w) })
					wantUntouched(t, "Hint", roomyWrite(w), func(w api.Write) { s.Hint(2, w) })
					wantUntouched(t, "Mint", roomyWrite(w), func(w api.Write) { s.Mint(w.Key, w.Dead, w.Value, w.Ctx) })
				}
			}
		}
	}
	s := seen(t)
	wantUntouched(t, "Missing", roomyClocks(clocks(cl(1), cl(1, sp(0, 2), sp(1, 1, 3)), cl(2, sp(4, 2), sp(0, 1)), cl(9, sp(1, 1)))), func(l []api.Clock) { s.Missing(l) })
}

// TestP911NothingIsKept: what is written into what was handed in, behind the call, is seen nowhere.
func TestP911NothingIsKept(t *testing.T) {
	s, d := fresh(t, five(), 2)
	calls := []func(){
		func() {
			w := roomyWrite(wr(0, 2, sp(0, 1), sp(1, 4)))
			s.Merge(w)
			spoilt(w)
		},
		func() {
			w := roomyWrite(of("g", wr(0, 2, sp(0, 1), sp(1, 4))))
			s.Hint(1, w)
			spoilt(w)
		},
		func() {
			w := roomyWrite(wr(0, 1, sp(1, 7)))
			s.Mint("a", false, w.Value, w.Ctx)
			spoilt(w)
		},
		func() {
			l, set := roomyWrites(list(of("j", wr(1, 1, sp(0, 1))), wr(4, 1, sp(0, 2)))), room(spans(sp(1, 3, 5), sp(4, 1)), sp(7, 7))
			s.Take(1, set, l)
			spoilt(l)
			spoilt(set)
		},
		func() {
			l := roomyClocks(clocks(cl(1, sp(0, 1)), cl(2)))
			m := s.Missing(l)
			was := whole(m)
			spoilt(l)
			if !reflect.DeepEqual(whole(m), was) {
				t.Error("Missing's answer shares memory with its clocks")
			}
		},
	}
	for _, call := range calls {
		call()
	}
	want := state(1, clocks(cl(1, sp(0, 0, 2), sp(1, 3, 5), sp(2, 1), sp(4, 1)), cl(2)), hints(hint(1, of("g", wr(0, 2, sp(0, 1), sp(1, 4))))),
		list(of("a", wr(2, 1, sp(1, 7)))), list(of("j", wr(1, 1, sp(0, 1)))), list(wr(4, 1, sp(0, 2))))
	wantState(t, "what was handed in is spoilt", s, want)
	want.Gen = 2
	wantState(t, "what was handed in is spoilt, opened", opened(t, d, five(), 2), want)
}

// TestP911Answers: what is answered is new memory, within too.
func TestP911Answers(t *testing.T) {
	s := seen(t)
	w, _ := s.Mint("d", false, []byte("value"), spans(sp(0, 2), sp(1, 9)))
	spoilt(w)
	want := s.See()
	answers := []func() any{
		func() any { return s.Read("a") }, func() any { return s.Read("d") }, func() any { return s.Read("p") }, func() any { return s.Held(1, "h") }, func() any { return s.Clock(1) }, func() any { return s.Clock(2) }, func() any { return s.See() },
		func() any { return s.Missing(clocks(cl(1), cl(1), cl(2), cl(1, sp(0, 2)), cl(9))) },
	}
	for i, answer := range answers {
		one, two := answer(), answer()
		was := whole(two)
		spoilt(one)
		if !reflect.DeepEqual(whole(two), was) {
			t.Errorf("two of the answers %d have memory in common", i)
		}
		wantState(t, "answers are spoilt", s, want)
	}
	// what was answered stays as it is, whatever is done later
	state, m := s.See(), s.Missing(clocks(cl(1), cl(2)))
	before, behind := whole(state), whole(m)
	s.Merge(of("a", wr(4, 3, sp(1, 9), sp(4, 2))))
	s.Take(1, spans(sp(0, 900)), nil)
	s.Unhint(1, "h", dot(3, 1))
	if !reflect.DeepEqual(whole(state), before) || !reflect.DeepEqual(whole(m), behind) {
		t.Error("an answer has changed")
	}
}

// TestP911ListsApart: no two lists of one answer share memory.
func TestP911ListsApart(t *testing.T) {
	s := seen(t)
	m := s.Missing(clocks(cl(1), cl(1), cl(1)))
	was := whole(m[1:])
	spoilt(m[0])
	if !reflect.DeepEqual(whole(m[1:]), was) {
		t.Error("two lists of Missing share memory")
	}
	st := s.See()
	for i := range st.Keys {
		rest, others := whole(st.Clocks), whole(st.Keys[i+1:])
		spoilt(st.Keys[i])
		if !reflect.DeepEqual(whole(st.Clocks), rest) || !reflect.DeepEqual(whole(st.Keys[i+1:]), others) {
			t.Error("two lists of See share memory")
		}
	}
	for i := range st.Clocks {
		others := whole(st.Clocks[i+1:])
		spoilt(st.Clocks[i].Set)
		_ = append(st.Clocks[i].Set, sp(1, 1), sp(2, 2))
		if !reflect.DeepEqual(whole(st.Clocks[i+1:]), others) {
			t.Error("two clocks of See share memory")
		}
	}
	for i := range st.Hints {
		others := whole(st.Hints[i+1:])
		spoilt(st.Hints[i].Write)
		if !reflect.DeepEqual(whole(st.Hints[i+1:]), others) {
			t.Error("two hints of See share memory")
		}
	}
}

// TestP911TwoDisks: two stores on two disks have nothing in common.
func TestP911TwoDisks(t *testing.T) {
	s, d := fresh(t, five(), 2)
	wantDone(t, s, d, mint("k", false, "v"), wr(2, 1), 9)
	e := diskOf(t, d.Image())
	x := opened(t, e, five(), 2)
	wantDone(t, s, d, mint("k", false, "w"), with("w", wr(2, 2)), 9)
	wantDone(t, x, e, mint("p", false, "x"), of("p", with("x", wr(2, 1))), 9)
	wantState(t, "the one", s, state(1, clocks(cl(1, sp(2, 2)), cl(2)), nil, list(wr(2, 1), with("w", wr(2, 2)))))
	wantState(t, "the other", x, state(2, clocks(cl(1, sp(2, 1)), cl(2, sp(2, 1))), nil, list(wr(2, 1)), list(of("p", with("x", wr(2, 1))))))
	d.Off()
	s.Merge(wr(4, 1))
	if !s.Dead() || x.Dead() {
		t.Error("the other one is dead")
	}
	wantDone(t, x, e, merge(wr(4, 1)), true, 9)
}

// TestP911TwoStoresOnOneDisk: what comes of it is not said, but every call ends.
func TestP911TwoStoresOnOneDisk(t *testing.T) {
	for seed := range int64(10) {
		r := rand.New(rand.NewSource(seed))
		d := newDisk(t)
		stores := []*Store{opened(t, d, five(), 2), opened(t, d, five(), 2), opened(t, d, five(), 2)}
		for range 60 {
			i := r.Intn(len(stores))
			switch r.Intn(12) {
			case 0:
				if s, err := Open(d, five(), 2); err == api.OK {
					stores[i] = s
				}
			case 1:
				d.Arm(r.Intn(8), r.Intn(513))
			case 2:
				d.On()
			default:
				anyCall(r, five(), 2).do(stores[i])
			}
			for _, s := range stores {
				s.See()
				s.Missing(clocks(cl(1), cl(2)))
			}
		}
	}
}

// TestP911AtOnce: calls from several goroutines: each is done as a whole.
func TestP911AtOnce(t *testing.T) {
	c := widest()
	c.Nodes, c.Prefer, c.Ranges = 1, 1, 1
	d := newDisk(t)
	s := opened(t, d, c, 0)
	const workers, each = 8, 20
	dots := make([][]api.Dot, workers)
	var join sync.WaitGroup
	for i := range workers {
		join.Add(1)
		go func() {
			defer join.Done()
			for range each {
				w, err := s.Mint(string(rune('a'+i)), false, []byte{byte(i)}, s.Clock(0))
				if err != api.OK {
					t.Errorf("Mint: %d", err)
				}
				dots[i] = append(dots[i], w.Dot)
				lookAtOnce(t, s)
			}
		}()
	}
	join.Wait()
	var met []api.Dot
	for _, l := range dots {
		met = append(met, l...)
	}
	slices.SortFunc(met, compareDots)
	if n := len(met); n != workers*each || met[0] != dot(0, 1) || met[n-1] != dot(0, n) || len(slices.Compact(met)) != n {
		t.Errorf("%d dots, from %v to %v", n, met[0], met[n-1])
	}
	wantClock(t, "all of them", s, 0, sp(0, workers*each))
	lookAtOnce(t, s)
	lookAtOnce(t, opened(t, d, c, 0))
}

// lookAtOnce: at every moment each sibling is known.
func lookAtOnce(t *testing.T, s *Store) {
	t.Helper()
	st := s.See()
	for _, l := range st.Keys {
		for _, w := range l {
			if w.Dot.Count > st.Clocks[0].Set[0].Base {
				t.Errorf("%v is stored and not known", w.Dot)
			}
		}
	}
	s.Missing(clocks(cl(0), cl(0, sp(0, 3))))
	s.Read("a")
	s.Held(0, "a")
	if s.Dead() {
		t.Error("it is dead")
	}
}

// TestP911DownAtOnce: the power fails while several write: each is answered OK, or ErrDown, and all from then on.
func TestP911DownAtOnce(t *testing.T) {
	c := widest()
	c.Nodes, c.Prefer, c.Ranges = 1, 1, 1
	for after := range 40 {
		d := newDisk(t)
		s := opened(t, d, c, 0)
		d.Arm(after, 100)
		kept := make([]int, 6)
		var join sync.WaitGroup
		for i := range kept {
			join.Add(1)
			go func() {
				defer join.Done()
				for range 3 {
					if _, err := s.Mint(string(rune('a'+i)), false, nil, nil); err == api.OK {
						kept[i]++
					}
				}
			}()
		}
		join.Wait()
		want := after / 9
		sum := 0
		for _, n := range kept {
			sum += n
		}
		if sum != want || !s.Dead() {
			t.Errorf("behind %d raw writes: %d were answered OK, dead %v; want %d", after, sum, s.Dead(), want)
		}
		wantReopened(t, d, c, want)
	}
}

func wantReopened(t *testing.T, d *disk.Disk, c api.Config, known int) {
	t.Helper()
	d.On()
	s := opened(t, d, c, 0)
	var want []api.Span
	if known > 0 {
		want = spans(sp(0, known))
	}
	wantClock(t, "opened again", s, 0, want...)
}
