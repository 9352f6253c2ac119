package wire

import (
	"bytes"
	"slices"
	"testing"

	"rookery/api"
)

func room[T any](l []T, mark T) []T {
	out := append(make([]T, 0, len(l)+3), l...)
	for i := len(l); i < cap(out); i++ {
		out[:cap(out)][i] = mark
	}
	return out
}

// whole: a list with its spare room.
func whole[T any](l []T) []T { return l[:cap(l)] }

// roomy: the same message: all its lists have spare room, with something in it.
func roomy(m api.Msg) api.Msg {
	m.Set = room(m.Set, sp(7, 77))
	var l []api.Write
	for _, w := range m.Writes {
		w.Value, w.Ctx = room(w.Value, 77), room(w.Ctx, sp(7, 77))
		l = append(l, w)
	}
	m.Writes = room(l, of("spare", wr(6, 66)))
	return m
}

// seen: all that is to be seen of a message, spare room and all, in memory of its own.
func seen(m api.Msg) api.Msg {
	m.Set = slices.Clone(whole(m.Set))
	var l []api.Write
	for _, w := range whole(m.Writes) {
		w.Value, w.Ctx = slices.Clone(whole(w.Value)), slices.Clone(whole(w.Ctx))
		l = append(l, w)
	}
	m.Writes = l
	return m
}

// spoil writes over all of a message's lists, spare room and all.
func spoil(m api.Msg) {
	for i, w := range whole(m.Writes) {
		for j := range whole(w.Value) {
			whole(w.Value)[j] = 99
		}
		for j := range whole(w.Ctx) {
			whole(w.Ctx)[j] = sp(5, 55)
		}
		whole(m.Writes)[i] = wr(4, 44)
	}
	for i := range whole(m.Set) {
		whole(m.Set)[i] = sp(3, 33)
	}
}

func spoilBytes(b []byte) {
	for i := range whole(b) {
		whole(b)[i] = 0xEE
	}
}

// noMessages: messages that are none: what is refused is not changed either.
func noMessages() []api.Msg {
	return []api.Msg{
		{Kind: api.MsgTell, Key: "k", Set: eight(), Writes: row("k", 2)}, {Kind: api.MsgShip, Writes: list(wr(1, 1), wr(0, 1))},
		{Kind: api.MsgStored, Set: plainEight(), Writes: row("k", 2)}, {Kind: api.MsgStore, Writes: list(wr(1, 1, sp(1, 1)))},
	}
}

func TestP609NothingIsChanged(t *testing.T) {
	for _, given := range append(samples(), noMessages()...) {
		m := roomy(given)
		was := seen(m)
		same := func(call string) {
			t.Helper()
			if !sameMsg(seen(m), was) {
				t.Errorf("%s: what was handed in is changed: %+v; it was %+v", call, seen(m), was)
			}
		}
		Valid(m)
		same("Valid")
		b, _ := Encode(m)
		same("Encode")
		spoilBytes(b)
		same("Encode, the answer written over")
		b, _ = PutSet(m.Set)
		spoilBytes(b)
		same("PutSet")
		for _, w := range m.Writes {
			b, _ = PutWrite(w)
			spoilBytes(b)
			same("PutWrite")
		}
	}
}

func TestP609NothingOfAMessageIsKept(t *testing.T) {
	for _, given := range samples() {
		m := roomy(given)
		b := encoded(t, m)
		set, _ := PutSet(m.Set)
		var writes [][]byte
		for _, w := range m.Writes {
			one, _ := PutWrite(w)
			writes = append(writes, one)
		}
		spoil(m)
		wantBytes(t, "Encode", b, api.OK, join(msgFields(given)))
		wantBytes(t, "PutSet", set, api.OK, join(setFields(given.Set)))
		for i, w := range given.Writes {
			wantBytes(t, "PutWrite", writes[i], api.OK, join(writeFields(w)))
		}
		wantBytes(t, "Encode, asked again", encoded(t, given), api.OK, b)
	}
}

// TestP609NothingOfBytesIsKept: what was read stays, whatever is done with the bytes, and the bytes stay, whatever is done with it.
func TestP609NothingOfBytesIsKept(t *testing.T) {
	for _, m := range samples() {
		for _, behind := range [][]byte{nil, {0xFF}} { // right bytes, and wrong ones
			b := room(slices.Concat(encoded(t, m), behind), 88)
			was := slices.Clone(whole(b))
			got, _, err := Decode(b)
			if spoilBytes(b); err == api.OK && !sameMsg(got, m) {
				t.Errorf("Decode: the answer goes with the bytes: %+v; it was %+v", got, m)
			}
			copy(whole(b), was)
			if spoil(got); !bytes.Equal(whole(b), was) {
				t.Errorf("Decode: the bytes are changed")
			}
			wantDecoded(t, encoded(t, m), m)
		}
		wantSetOfItsOwn(t, m.Set)
		for _, w := range m.Writes {
			wantWriteOfItsOwn(t, w)
			wantSetOfItsOwn(t, w.Ctx)
		}
	}
}

func wantSetOfItsOwn(t *testing.T, s []api.Span) {
	t.Helper()
	b := room(join(setFields(s)), 88)
	was := slices.Clone(whole(b))
	got, _, _ := GetSet(b, 0)
	spoilBytes(b)
	if !slices.Equal(got, s) {
		t.Errorf("GetSet: the answer goes with the bytes: %v; it was %v", got, s)
	}
	copy(whole(b), was)
	spoil(api.Msg{Set: got})
	if !bytes.Equal(whole(b), was) {
		t.Errorf("GetSet: the bytes are changed")
	}
}

func wantWriteOfItsOwn(t *testing.T, w api.Write) {
	t.Helper()
	b := room(join(writeFields(w)), 88)
	was := slices.Clone(whole(b))
	got, _, _ := GetWrite(b, 0)
	spoilBytes(b)
	if !sameWrite(got, w) {
		t.Errorf("GetWrite: the answer goes with the bytes: %+v; it was %+v", got, w)
	}
	copy(whole(b), was)
	spoil(api.Msg{Writes: list(got)})
	if !bytes.Equal(whole(b), was) {
		t.Errorf("GetWrite: the bytes are changed")
	}
}

// TestP609NoTwoShare: each list of a message that was read is written over, and what is beyond its end: no other one changes.
func TestP609NoTwoShare(t *testing.T) {
	for _, m := range samples() {
		b := encoded(t, m)
		for i := -1; i < len(m.Writes); i++ {
			got, _, _ := Decode(b)
			want := m
			want.Set, want.Writes = slices.Clone(m.Set), slices.Clone(m.Writes)
			if i < 0 {
				for j := range whole(got.Set) {
					whole(got.Set)[j] = sp(3, 33)
				}
				want.Set = slices.Repeat(spans(sp(3, 33)), len(m.Set))
			} else {
				w := got.Writes[i]
				for j := range whole(w.Value) {
					whole(w.Value)[j] = 99
				}
				for j := range whole(w.Ctx) {
					whole(w.Ctx)[j] = sp(5, 55)
				}
				want.Writes[i].Value = bytes.Repeat([]byte{99}, len(w.Value))
				want.Writes[i].Ctx = slices.Repeat(spans(sp(5, 55)), len(w.Ctx))
			}
			if !sameMsg(got, want) {
				t.Errorf("list %d written over: %+v; want %+v", i, got, want)
			}
		}
	}
}

// TestP609TwoAnswers: two answers to one question share nothing.
func TestP609TwoAnswers(t *testing.T) {
	for _, m := range samples() {
		first, second := encoded(t, m), encoded(t, m)
		spoilBytes(first)
		wantBytes(t, "the other bytes", second, api.OK, join(msgFields(m)))
		one, _, _ := Decode(second)
		other, _, _ := Decode(second)
		if spoil(one); !sameMsg(other, m) {
			t.Errorf("the other message: %+v; want %+v", other, m)
		}
	}
}
