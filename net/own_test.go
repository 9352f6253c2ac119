package net

import (
	"bytes"
	"testing"

	"rookery/api"
)

// roomy: a letter whose Data has spare room, with something in it.
func roomy(s string) api.Letter {
	l := note(s)
	l.Data = append(l.Data, "spare"...)[:len(s)]
	return l
}

// whole: a list with its spare room.
func whole(b []byte) []byte { return b[:cap(b)] }

func spoil(l api.Letter) {
	for i := range whole(l.Data) {
		whole(l.Data)[i] = '!'
	}
}

func TestP1007HandedIn(t *testing.T) {
	for _, room := range []int{1, 2} {
		b := fresh(t, room)
		for _, s := range []string{"abc", "", "def"} {
			l := roomy(s)
			before := bytes.Clone(whole(l.Data))
			err := b.Send(l)
			if !bytes.Equal(whole(l.Data), before) || len(l.Data) != len(s) {
				t.Errorf("Send (%d) changed what was handed in", err)
			}
			spoil(l)
		}
		wantBag(t, "behind spoilt arguments", b, []string{"abc", ""}[:room]...)
	}
}

func TestP1007Answered(t *testing.T) {
	b := filled(t, 3, 3)
	for range 2 {
		for i := range 3 {
			l, _ := b.At(i)
			spoil(l)
			p := b.To(2)
			clear(p[:cap(p)])
			c := b.Counts()
			clear(c[:])
		}
		wantBag(t, "behind spoilt answers", b, "a", "b", "c")
		wantCounts(t, "behind spoilt answers", b, 3, 0, 0, 0, 0)
		if p := b.To(2); len(p) != 3 || p[0] != 0 || p[1] != 1 || p[2] != 2 {
			t.Errorf("To behind a spoilt answer: %v", p)
		}
	}
	early, _ := b.At(1)
	l, _ := b.Deliver(1)
	spoil(l)
	if !same(early, note("b")) {
		t.Error("At and Deliver answered one memory")
	}
	wantErr(t, "Send", b.Send(note("d")), api.OK)
	if string(l.Data) != "!" {
		t.Error("Send wrote into what had been delivered")
	}
	wantBag(t, "behind a spoilt delivery", b, "a", "c", "d")
}

// TestP1007Doubles: a letter and its double, spoilt within the bag, where an answer's copy can't hide what they share.
func TestP1007Doubles(t *testing.T) {
	b := fresh(t, 4)
	l := roomy("abc")
	for range 2 {
		wantErr(t, "Send of one memory twice", b.Send(l), api.OK)
	}
	wantErr(t, "Double", b.Double(0), api.OK)
	wantErr(t, "Double of a double", b.Double(2), api.OK)
	for i := range 4 {
		spoil(b.letters[i])
		for j := i + 1; j < 4; j++ {
			if got, _ := b.At(j); !same(got, note("abc")) {
				t.Errorf("the letters %d and %d have memory in common", i, j)
			}
		}
	}
	if string(whole(l.Data)[:8]) != "abcspare" {
		t.Error("the bag has kept what was handed in")
	}
}

// TestP1007NothingHeld: behind the letters there is no letter that went out.
func TestP1007NothingHeld(t *testing.T) {
	b := filled(t, 4, 4)
	wantErr(t, "Move", b.Move(3, 0), api.OK)
	wantErr(t, "Drop", b.Drop(3), api.OK)
	wantErr(t, "Drop", b.Drop(0), api.OK)
	if _, err := b.Deliver(1); err != api.OK {
		t.Errorf("Deliver: %d", err)
	}
	wantBag(t, "what is left", b, "a")
	for i, l := range b.letters[1:cap(b.letters)] {
		if l.From != 0 || l.To != 0 || l.Data != nil {
			t.Errorf("%d behind the last letter the bag holds %v", i, l)
		}
	}
}

func TestP1007TwoBags(t *testing.T) {
	a, b := fresh(t, 2), fresh(t, 3)
	l := note("l")
	for range 2 {
		wantErr(t, "Send", a.Send(l), api.OK)
		wantErr(t, "Send", b.Send(l), api.OK)
	}
	wantErr(t, "Send into the full one", a.Send(l), api.ErrLost)
	wantErr(t, "Send into the other", b.Send(note("m")), api.OK)
	spoil(a.letters[0])
	wantErr(t, "Drop", a.Drop(0), api.OK)
	wantBag(t, "the one", a, "l")
	wantBag(t, "the other", b, "l", "l", "m")
	wantCounts(t, "the one", a, 2, 1, 0, 1, 0)
	wantCounts(t, "the other", b, 3, 0, 0, 0, 0)
}
