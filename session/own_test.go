package session

import (
	"fmt"
	"slices"
	"testing"
	"unsafe"

	"rookery/api"
)

// whole: a list with its spare room.
func whole[T any](l []T) []T { return l[:cap(l)] }

// roomy: the same list in memory of its own, with spare room that has something in it.
func roomy[T any](l []T, spare T) []T {
	out := append(make([]T, 0, len(l)+2), l...)
	whole(out)[len(l)], whole(out)[len(l)+1] = spare, spare
	return out
}

func roomyWrite(w api.Write) api.Write {
	w.Value, w.Ctx = roomy(w.Value, 'x'), roomy(w.Ctx, sp(3, 99))
	return w
}

func (a asked) roomy() asked {
	a.token, a.writes = roomy(a.token, sp(1, 98)), roomy(a.writes, wr("spare", 1, 7))
	for i, w := range a.writes {
		a.writes[i] = roomyWrite(w)
	}
	return a
}

func showWrite(w api.Write) string {
	return fmt.Sprintf("%v %q %v %q %v; ", w.Dot, w.Key, w.Dead, whole(w.Value), whole(w.Ctx))
}

// show: all that was handed in, spare room and all.
func (a asked) show() string {
	text := fmt.Sprint(a.call, len(a.token), len(a.writes), whole(a.token))
	for _, w := range whole(a.writes) {
		text += showWrite(w)
	}
	return text
}

func spoilWrite(w api.Write) {
	clear(whole(w.Value))
	for i := range whole(w.Ctx) {
		whole(w.Ctx)[i] = sp(0, 77)
	}
}

func (a asked) spoil() {
	for i, w := range a.writes {
		spoilWrite(w)
		a.writes[i] = wr("spoilt", 0, 66)
	}
	for i := range whole(a.token) {
		whole(a.token)[i] = sp(0, 55)
	}
}

// story: reads of the keys c and g, accepted and refused ones; behind each a write, right or not.
func story() ([]asked, []api.Write) {
	reads := []asked{
		{1, "c", spans(sp(2, 2), sp(3, 1)), list(wr("c", 2, 1), wr("c", 2, 2), wr("c", 3, 1, sp(1, 1)))}, {2, "c", spans(sp(2, 1)), nil}, {0, "c", spans(sp(2, 1)), list(wr("c", 2, 1))},
		{3, "g", spans(far(1, 3, 4)), list(wr("g", 1, 6, sp(1, 3)))}, {4, "c", spans(sp(2, 2), sp(4, 1)), nil}, {5, "c", spans(sp(2, 9), sp(3, 3)), list(wr("c", 2, 9, sp(2, 8)), wr("c", 3, 2))},
		{6, "g", spans(sp(1, 6), sp(3, 1)), list(wr("g", 1, 6), wr("c", 3, 1))}, {7, "", spans(sp(1, 6)), list(wr("g", 1, 6))},
	}
	writes := list(wr("c", 2, 3, sp(2, 2)), wr("g", 1, 1), wr("c", 4, 1), wr("g", 3, 1, far(1, 2, 8)), wr("c", 2, 3, sp(2, 9)), wr("c", 3, 3, sp(2, 9)), wr("g", 3, 2, sp(3, 1)), wr("c", 3, 4))
	return reads, writes
}

// TestP1506NothingKept: what was handed in and what was answered may be spoilt behind each call: all goes on as it would have.
func TestP1506NothingKept(t *testing.T) {
	s, other := fresh(t, four(), 1), fresh(t, four(), 1)
	reads, writes := story()
	for i, a := range reads {
		b, w := a.roomy(), roomyWrite(writes[i])
		wantErr(t, "Got, spoilt", b.of(other), a.of(s))
		b.spoil()
		wantErr(t, "Wrote, spoilt", other.Wrote(w), s.Wrote(writes[i]))
		spoilWrite(w)
		for _, key := range []string{"c", "g"} {
			for j := range whole(other.Heads(key)) {
				whole(other.Heads(key))[j] = dot(0, 44)
			}
		}
		if got, want := everything(other, "c", "g", "spoilt"), everything(s, "c", "g", "spoilt"); got != want {
			t.Errorf("spoilt: %s; else %s", got, want)
		}
	}
}

// TestP1506NothingChanged: neither by what is accepted, nor by what is refused.
func TestP1506NothingChanged(t *testing.T) {
	s := fresh(t, four(), 1)
	reads, writes := story()
	for i, a := range reads {
		a, w := a.roomy(), roomyWrite(writes[i])
		before, written := a.show(), showWrite(w)
		_, _ = a.of(s), s.Wrote(w)
		if a.show() != before || showWrite(w) != written {
			t.Errorf("handed in: %s, %s; it is %s, %s", before, written, a.show(), showWrite(w))
		}
	}
}

// TestP1506NewMemory: no two lists of heads have any in common.
func TestP1506NewMemory(t *testing.T) {
	s := fresh(t, four(), 1)
	reads, writes := story()
	var all [][]api.Dot
	for i, a := range reads {
		_, _ = a.of(s), s.Wrote(writes[i])
		all = append(all, s.Heads("c"), s.Heads("c"), s.Heads("g"))
	}
	all = slices.DeleteFunc(all, func(l []api.Dot) bool { return cap(l) == 0 })
	at := func(l []api.Dot) uintptr { return uintptr(unsafe.Pointer(unsafe.SliceData(l))) }
	slices.SortFunc(all, func(a, b []api.Dot) int { return int(at(a)) - int(at(b)) })
	for i := 1; i < len(all); i++ {
		if at(all[i-1])+uintptr(cap(all[i-1]))*unsafe.Sizeof(api.Dot{}) > at(all[i]) {
			t.Errorf("%v and %v share memory", all[i-1], all[i])
		}
	}
	if len(all) < 20 {
		t.Errorf("only %d lists", len(all))
	}
}
