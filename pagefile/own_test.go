package pagefile

import (
	"math/rand"
	"reflect"
	"slices"
	"testing"

	"rookery/api"
)

// room: the same list with spare room, something in it.
func room[T any](l []T, mark T) []T {
	out := append(make([]T, 0, len(l)+3), l...)
	for i := len(l); i < cap(out); i++ {
		out[:cap(out)][i] = mark
	}
	return out
}

// all: a list with its spare room.
func all[T any](l []T) []T { return l[:cap(l)] }

// roomy: the same changes: the list and all bytes have spare room.
func roomy(l []api.Change) []api.Change {
	var out []api.Change
	for _, c := range l {
		c.Data = room(c.Data, 77)
		out = append(out, c)
	}
	return room(out, put(55, numbered(55)))
}

// seen: all that is to be seen of changes, spare room and all, in memory of its own.
func seen(l []api.Change) []api.Change {
	out := slices.Clone(all(l))
	for i, c := range out {
		out[i].Data = slices.Clone(all(c.Data))
	}
	return out
}

func fill[T any](l []T, with T) {
	for i := range all(l) {
		all(l)[i] = with
	}
}

func TestP808NothingIsChanged(t *testing.T) {
	right, wrong := numbered(1), numbered(1)[:2047]
	for _, l := range [][]api.Change{
		nil, changes(put(9, right), put(3, nil), put(5, wide(5)), put(4, []byte{})), changes(put(9, right), put(3, right), put(9, right)), changes(put(9, right), put(-1, right), put(2, nil)), changes(put(9, right), put(3, wrong), put(1, right)),
	} {
		for _, after := range []int{-1, 0, 5, 8} {
			d := newDisk(t, 808)
			f := opened(t, d)
			given := roomy(l)
			before := seen(given)
			d.Arm(after, 200)
			f.Commit(given)
			f.Commit(given)
			if !reflect.DeepEqual(seen(given), before) {
				t.Errorf("Commit changed what was handed in: %d changes", len(l))
			}
		}
	}
}

// TestP808NothingIsKept: what is written into the changes behind a Commit is seen nowhere.
func TestP808NothingIsKept(t *testing.T) {
	d := newDisk(t, 808)
	f := opened(t, d)
	l := changes(put(9, numbered(9)), put(3, wide(3)), put(70, nil))
	want := content{}.with(l...)
	given := roomy(l)
	wantOK(t, f, given...)
	for _, c := range given {
		fill(c.Data, 99)
	}
	fill(given, put(1, nil))
	wantContent(t, "what was handed in is spoilt", f, want)
	wantContent(t, "what was handed in is spoilt, opened", opened(t, d), want)
	wantOK(t, f, put(4, nil))
	want.seq++
	wantContent(t, "behind another commit", f, want)
}

// TestP808Answers: what Page and Pages answer is new memory, spare room too.
func TestP808Answers(t *testing.T) {
	d := newDisk(t, 808)
	f := opened(t, d)
	l := changes(put(9, numbered(9)), put(3, wide(3)), put(4, wide(4)))
	wantOK(t, f, l...)
	want := content{}.with(l...)
	for _, g := range []*File{f, opened(t, d)} {
		one, _ := g.Page(3)
		two, _ := g.Page(3)
		fill(one, 99)
		if string(two) != string(wide(3)) {
			t.Error("two answers have memory in common")
		}
		fill(two, 98)
		other, _ := g.Page(4)
		_ = append(other, 1, 2, 3)
		fill(other, 97)
		fill(g.Pages(), 42)
		wantContent(t, "answers are spoilt", g, want)
		wantContent(t, "answers are spoilt, opened", opened(t, d), want)
	}
}

// TestP808OneSliceTwice: the bytes of two pages may be one slice, and one that a file has answered.
func TestP808OneSliceTwice(t *testing.T) {
	d := newDisk(t, 808)
	f := opened(t, d)
	b := wide(1)
	wantOK(t, f, put(1, b), put(2, b))
	answered, _ := f.Page(1)
	wantOK(t, f, put(3, answered), put(1, answered), put(2, numbered(2)))
	fill(answered, 9)
	fill(b, 9)
	want := content{seq: 1}.with(put(1, wide(1)), put(3, wide(1)), put(2, numbered(2)))
	wantContent(t, "one slice twice", f, want)
	wantContent(t, "one slice twice, opened", opened(t, d), want)
}

// TestP808TwoDisks: two files on two disks have nothing in common.
func TestP808TwoDisks(t *testing.T) {
	d := newDisk(t, 808)
	f := opened(t, d)
	wantOK(t, f, put(1, wide(1)))
	e := diskOf(t, d.Image())
	g := opened(t, e)
	wantOK(t, f, put(1, wide(2)), put(2, numbered(2)))
	wantContent(t, "the other file", g, content{}.with(put(1, wide(1))))
	wantOK(t, g, put(1, nil))
	wantContent(t, "the one file", f, content{seq: 1}.with(put(1, wide(2)), put(2, numbered(2))))
	d.Off()
	wantErr(t, "the one off", f.Commit(nil), api.ErrDown)
	wantErr(t, "the other on", g.Commit(changes(put(5, wide(5)))), api.OK)
	wantContent(t, "the other file", opened(t, e), content{seq: 2}.with(put(5, wide(5))))
}

// TestP808TwoFilesOnOneDisk: what comes of their commits is not said, but every call ends.
func TestP808TwoFilesOnOneDisk(t *testing.T) {
	for seed := range int64(12) {
		r := rand.New(rand.NewSource(seed))
		d := newDisk(t, 808)
		files := []*File{opened(t, d), opened(t, d), opened(t, d)}
		for range 60 {
			i := r.Intn(len(files))
			switch r.Intn(12) {
			case 0:
				if f, err := Open(d); err == api.OK {
					files[i] = f
				}
			case 1:
				d.Arm(r.Intn(8), r.Intn(513))
			case 2:
				d.On()
			default:
				files[i].Commit(randomChanges(r, 100))
			}
			for _, f := range files {
				for _, n := range f.Pages() {
					f.Page(n)
				}
				if f.Dead() && f.Seq() != 0 {
					t.Fatal("a dead file tells something")
				}
			}
		}
	}
}
