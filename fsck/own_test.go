package fsck

import (
	"bytes"
	"fmt"
	"math/rand"
	"reflect"
	"runtime"
	"slices"
	"sync"
	"testing"

	"rookery/api"
)

// room: the same list with spare room, something in it.
func room[T any](l []T, mark T) []T {
	out := append(make([]T, 0, len(l)+3), l...)
	for i := len(l); i < cap(out); i++ {
		out[:cap(out)][i] = mark
	}
	return out
}

// all: a list with its spare room.
func all[T any](l []T) []T { return l[:cap(l)] }

func roomyWrite(w api.Write) api.Write {
	w.Value, w.Ctx = room(w.Value, 77), room(w.Ctx, sp(6, 6))
	return w
}

func roomyList(l []api.Write) []api.Write {
	out := room(l, of("spare", wr(1, 1)))
	for i, w := range l {
		out[i] = roomyWrite(w)
	}
	return out
}

// roomy: the same state: all its lists have spare room.
func roomy(s api.State) api.State {
	s.Clocks, s.Hints, s.Keys = room(s.Clocks, cl(9)), room(s.Hints, hint(7, wr(1, 1))), room(s.Keys, list(wr(1, 1)))
	for i := range s.Clocks {
		s.Clocks[i].Set = room(s.Clocks[i].Set, sp(6, 6))
	}
	for i := range s.Hints {
		s.Hints[i].Write = roomyWrite(s.Hints[i].Write)
	}
	for i := range s.Keys {
		s.Keys[i] = roomyList(s.Keys[i])
	}
	return s
}

func seenWrite(w api.Write) api.Write {
	w.Value, w.Ctx = slices.Clone(all(w.Value)), slices.Clone(all(w.Ctx))
	return w
}

// seen: all that is to be seen of a state, spare room and all, in memory of its own.
func seen(s api.State) api.State {
	s.Clocks, s.Hints, s.Keys = slices.Clone(all(s.Clocks)), slices.Clone(all(s.Hints)), slices.Clone(all(s.Keys))
	for i := range s.Clocks {
		s.Clocks[i].Set = slices.Clone(all(s.Clocks[i].Set))
	}
	for i := range s.Hints {
		s.Hints[i].Write = seenWrite(s.Hints[i].Write)
	}
	for i := range s.Keys {
		s.Keys[i] = slices.Clone(all(s.Keys[i]))
		for j, w := range s.Keys[i] {
			s.Keys[i][j] = seenWrite(w)
		}
	}
	return s
}

// odds: an image with something of each kind: a node's, and a spoilt one.
func oddImages(t *testing.T) [][]byte {
	whole := rebuilt(t, sample(), five(), 2)
	var out [][]byte
	for i := range 4 {
		b := slices.Clone(whole)
		setSlot(b, 150, keyPage(of("a", wr(1, 1)), of("a", wr(2, 2, sp(0, 3)))))
		setSlot(b, 151, hintPage(1, of("c", wr(1, 1, sp(0, 2)))))
		if i > 0 {
			b[4096+2048*(3*i-3)+5] ^= 64
		}
		out = append(out, b)
	}
	return append(out, make([]byte, size), bytes.Repeat([]byte{255}, size))
}

// TestP2010Image: an image is neither changed nor kept.
func TestP2010Image(t *testing.T) {
	for i, b := range oddImages(t) {
		given := room(b, 99)
		was := slices.Clone(all(given))
		finds, _ := Look(given, five(), 2)
		left, _ := Dump(given, five(), 2)
		writes, _ := Salvage(given, five(), 2)
		if !bytes.Equal(all(given), was) {
			t.Errorf("image %d is changed", i)
		}
		texts := fmt.Sprint(finds) + showState(left) + showAll(writes)
		for j := range all(given) {
			all(given)[j] = 0xA5
		}
		if got := fmt.Sprint(finds) + showState(left) + showAll(writes); got != texts {
			t.Errorf("image %d: the answers go with it: %s; they were %s", i, got, texts)
		}
		spoilState(left)
		spoilWrites(writes)
		for _, x := range all(given) {
			if x != 0xA5 {
				t.Fatalf("image %d goes with the answers", i)
			}
		}
	}
}

// TestP2010State: a state is neither changed nor kept, one that is refused too.
func TestP2010State(t *testing.T) {
	wrong := sample()
	wrong.Hints[3].Owner = 4
	late := sample()
	late.Keys[2][0].Ctx = []api.Span{sp(7, 1)}
	for i, s := range []api.State{sample(), wrong, late, {}, state(0, clocks(cl(1), cl(2)), nil)} {
		given := roomy(s)
		was := seen(given)
		b, _ := Rebuild(given, five(), 2)
		if !reflect.DeepEqual(seen(given), was) {
			t.Errorf("state %d is changed", i)
		}
		text := string(b)
		spoilState(given)
		if string(b) != text {
			t.Errorf("state %d: the image goes with it", i)
		}
		now := seen(given)
		for j := range all(b) {
			all(b)[j] = 0x5A
		}
		if !reflect.DeepEqual(seen(given), now) {
			t.Errorf("state %d goes with the image", i)
		}
	}
}

func spoilWrite(w api.Write) {
	for i := range all(w.Value) {
		all(w.Value)[i] ^= 255
	}
	for i := range all(w.Ctx) {
		all(w.Ctx)[i] = sp(5, 55)
	}
}

func spoilWrites(l []api.Write) {
	for _, w := range l {
		spoilWrite(w)
	}
	for i := range all(l) {
		all(l)[i] = of("spoilt", wr(5, 55))
	}
}

func spoilState(s api.State) {
	for _, k := range s.Clocks {
		for i := range all(k.Set) {
			all(k.Set)[i] = sp(5, 55)
		}
	}
	for _, l := range s.Keys {
		spoilWrites(l)
	}
	for _, h := range s.Hints {
		spoilWrite(h.Write)
	}
	for i := range all(s.Clocks) {
		all(s.Clocks)[i] = cl(55)
	}
	for i := range all(s.Hints) {
		all(s.Hints)[i] = hint(55, wr(5, 55))
	}
	for i := range all(s.Keys) {
		all(s.Keys)[i] = nil
	}
}

// TestP2010Answers: each list of an answer is memory of its own, its spare room too; a later answer doesn't go with an earlier one.
func TestP2010Answers(t *testing.T) {
	for i, b := range oddImages(t) {
		finds, _ := Look(b, five(), 2)
		left, _ := Dump(b, five(), 2)
		writes, _ := Salvage(b, five(), 2)
		texts := []string{fmt.Sprint(finds), showState(left), showAll(writes)}
		image := rebuilt(t, left, five(), 2)
		text := string(image)
		wantApart(t, fmt.Sprint("image ", i), left, writes)
		spoilState(left)
		spoilWrites(writes)
		for j := range all(finds) {
			all(finds)[j] = find(55, 55, 55)
		}
		for j := range all(image) {
			all(image)[j] = 55
		}
		finds, _ = Look(b, five(), 2)
		left, _ = Dump(b, five(), 2)
		writes, _ = Salvage(b, five(), 2)
		if got := []string{fmt.Sprint(finds), showState(left), showAll(writes)}; !slices.Equal(got, texts) {
			t.Errorf("image %d: %v; the first time %v", i, got, texts)
		}
		if string(rebuilt(t, left, five(), 2)) != text {
			t.Errorf("image %d: Rebuild tells another image", i)
		}
	}
}

// wantApart: no two lists of the answers have memory in common.
func wantApart(t *testing.T, what string, s api.State, writes []api.Write) {
	t.Helper()
	var values [][]byte
	var sets [][]api.Span
	for _, k := range s.Clocks {
		sets = append(sets, k.Set)
	}
	for _, l := range append(slices.Clone(s.Keys), writes) {
		for _, w := range l {
			values, sets = append(values, w.Value), append(sets, w.Ctx)
		}
	}
	for _, h := range s.Hints {
		values, sets = append(values, h.Write.Value), append(sets, h.Write.Ctx)
	}
	apart(t, what, values)
	apart(t, what, sets)
	apart(t, what, append(slices.Clone(s.Keys), writes))
}

func apart[T any](t *testing.T, what string, lists [][]T) {
	t.Helper()
	at := map[*T]int{}
	for i, l := range lists {
		for j := range all(l) {
			if other, met := at[&all(l)[j]]; met {
				t.Errorf("%s: the lists %d and %d have memory in common", what, other, i)
			}
			at[&all(l)[j]] = i
		}
	}
}

// TestP2010Schedules: the same answers with one processor and with many, and from many goroutines at once.
func TestP2010Schedules(t *testing.T) {
	r := rand.New(rand.NewSource(5))
	d := &dealer{Rand: r, c: five(), odds: 4}
	var images [][]byte
	for range 6 {
		images = append(images, d.image(d.pages(2)))
	}
	tell := func(b []byte) string {
		finds, _ := Look(b, five(), 2)
		left, _ := Dump(b, five(), 2)
		writes, _ := Salvage(b, five(), 2)
		again, _ := Rebuild(left, five(), 2)
		return fmt.Sprint(finds) + showState(left) + showAll(writes) + string(again)
	}
	was := runtime.GOMAXPROCS(1)
	defer runtime.GOMAXPROCS(was)
	want := make([]string, len(images))
	for i, b := range images {
		want[i] = tell(b)
	}
	for _, procs := range []int{2, 8} {
		runtime.GOMAXPROCS(procs)
		var group sync.WaitGroup
		for i, b := range images {
			for range 4 {
				group.Go(func() {
					if tell(b) != want[i] {
						t.Errorf("image %d: another answer with %d processors", i, procs)
					}
				})
			}
		}
		group.Wait()
	}
}

// TestP2010Joined: no goroutine is left behind a call.
func TestP2010Joined(t *testing.T) {
	images := oddImages(t)
	was := runtime.NumGoroutine()
	for range 20 {
		for _, b := range images {
			Look(b, five(), 2)
			Dump(b, five(), 2)
			Salvage(b, five(), 2)
		}
	}
	for range 1000 { // a goroutine that has called Done may take a moment to end
		if runtime.NumGoroutine() <= was {
			return
		}
		runtime.Gosched()
	}
	t.Errorf("%d goroutines; there were %d", runtime.NumGoroutine(), was)
}
