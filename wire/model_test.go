package wire

import (
	"bytes"
	"math/rand"
	"slices"
	"testing"

	"rookery/api"
)

// wantAsPlain: the bytes are read as the plain reader reads them, and what is a message has no other form.
func wantAsPlain(t *testing.T, b []byte) {
	t.Helper()
	want, place, wantErr := plainDecode(b)
	m, at, err := Decode(b)
	if !sameMsg(m, want) || at != place || err != wantErr {
		t.Fatalf("Decode(% x): %+v, %d, %d; want %+v, %d, %d", b, m, at, err, want, place, wantErr)
	}
	if err != api.OK {
		return
	}
	if again, err := Encode(m); !bytes.Equal(again, b) || err != api.OK {
		t.Fatalf("Encode(%+v): % x, %d; want % x", m, again, err, b)
	}
}

func wantPartsAsPlain(t *testing.T, b []byte, at int) {
	t.Helper()
	w, end, err := GetWrite(b, at)
	if want, place, wantErr := plainGetWrite(b, at); !sameWrite(w, want) || end != place || err != wantErr {
		t.Fatalf("GetWrite(% x, %d): %+v, %d, %d; want %+v, %d, %d", b, at, w, end, err, want, place, wantErr)
	}
	s, end, err := GetSet(b, at)
	if want, place, wantErr := plainGetSet(b, at); !slices.Equal(s, want) || end != place || err != wantErr {
		t.Fatalf("GetSet(% x, %d): %v, %d, %d; want %v, %d, %d", b, at, s, end, err, want, place, wantErr)
	}
}

func randomNumber(r *rand.Rand, most int) int {
	switch r.Intn(4) {
	case 0:
		return most
	case 1:
		return r.Intn(most + 1)
	}
	return r.Intn(min(most, 4) + 1)
}

func randomText(r *rand.Rand, least, most int) []byte {
	b := make([]byte, least+randomNumber(r, most-least))
	for i := range b {
		b[i] = byte(r.Intn(256))
	}
	return b
}

func randomSet(r *rand.Rand, bits bool) []api.Span {
	var s []api.Span
	for node := range api.MaxNodes {
		if r.Intn(3) > 0 {
			continue
		}
		x := sp(node, 1+randomNumber(r, api.MaxCount-1))
		if bits && r.Intn(2) == 0 {
			x = api.Span{Node: node, Base: randomNumber(r, api.MaxCount-64), Bits: r.Uint64() << 1 >> r.Intn(64) &^ 1}
			x.Bits |= 2
		}
		s = append(s, x)
	}
	return s
}

func randomWrite(r *rand.Rand, key string) api.Write {
	w := api.Write{Dot: dot(r.Intn(api.MaxNodes), 1+randomNumber(r, api.MaxCount-1)), Key: key, Dead: r.Intn(3) == 0}
	if key == "" {
		w.Key = string(randomText(r, 1, api.MaxKey))
	}
	if !w.Dead {
		w.Value = randomText(r, 0, api.MaxValue)
	}
	if w.Ctx = randomSet(r, true); knows(w.Ctx, w.Dot) {
		w.Ctx = nil
	}
	return w
}

func randomWrites(r *rand.Rand, key string) []api.Write {
	var l []api.Write
	for range r.Intn(5) {
		l = append(l, randomWrite(r, key))
	}
	slices.SortFunc(l, func(a, b api.Write) int {
		return (a.Dot.Node-b.Dot.Node)<<21 + a.Dot.Count - b.Dot.Count
	})
	return slices.CompactFunc(l, func(a, b api.Write) bool { return a.Dot == b.Dot })
}

func randomMsg(r *rand.Rand) api.Msg {
	m := api.Msg{Kind: 1 + r.Intn(11), From: r.Intn(8), To: r.Intn(8)}
	for _, name := range table(m.Kind) {
		switch name {
		case "Call":
			m.Call = randomNumber(r, api.MaxCalls)
		case "Owner":
			m.Owner = r.Intn(8)
		case "Range":
			m.Range = r.Intn(16)
		case "Key":
			m.Key = string(randomText(r, 1, api.MaxKey))
		case "Dot":
			m.Dot = randomWrite(r, "k").Dot
		case "Set":
			m.Set = randomSet(r, m.Kind != api.MsgTell)
		case "write":
			m.Writes = list(randomWrite(r, ""))
		case "writes":
			m.Writes = randomWrites(r, m.Key)
		}
	}
	return m
}

// spoilt: the bytes with something changed, put in or taken out.
func spoilt(r *rand.Rand, b []byte) []byte {
	b = slices.Clone(b)
	for range 1 + r.Intn(2) {
		at := r.Intn(len(b) + 1)
		switch c := []byte{0, 1, 2, 8, 127, 128, 129, 255, byte(r.Intn(256))}[r.Intn(9)]; r.Intn(4) {
		case 0:
			b = slices.Insert(b, at, c)
		case 1:
			b = b[:at]
		case 2:
			b = slices.Delete(b, at, min(at+1, len(b)))
		default:
			if at < len(b) {
				b[at] = c
			}
		}
	}
	return b
}

// TestAgainstModel: P601 to P608 of random messages and of what is left of them, against a plain writer and reader.
func TestAgainstModel(t *testing.T) {
	for seed := range int64(4000) {
		r := rand.New(rand.NewSource(seed))
		m := randomMsg(r)
		b, err := Encode(m)
		if plain := join(msgFields(m)); !Valid(m) || !bytes.Equal(b, plain) || err != api.OK {
			t.Fatalf("seed %d: Encode(%+v): % x, %d; want % x", seed, m, b, err, plain)
		}
		wantAsPlain(t, b)
		for range 30 {
			b := spoilt(r, b)
			wantAsPlain(t, b)
			wantPartsAsPlain(t, b, r.Intn(len(b)+3)-1)
		}
		for i := range b {
			wantPartsAsPlain(t, b, i)
		}
	}
}

// TestModelFields: random numbers in the place of a message's own, which reach each rule more often than random bytes do.
func TestModelFields(t *testing.T) {
	for seed := range int64(4000) {
		r := rand.New(rand.NewSource(seed))
		fields := msgFields(randomMsg(r))
		for range 30 {
			changed := slices.Clone(fields)
			for range 1 + r.Intn(2) {
				changed[r.Intn(len(fields))].number = []uint64{0, 1, 2, 3, 7, 8, 9, 15, 16, 17, 64, 65, 4096, 4097, 1 << 20, 1<<20 + 1, r.Uint64()}[r.Intn(17)]
			}
			b := join(changed)
			wantAsPlain(t, b)
			wantPartsAsPlain(t, b, r.Intn(len(b)+1))
		}
	}
}

// TestModelShort: all short bytes, and all longer ones of a few numbers.
func TestModelShort(t *testing.T) {
	wantAsPlain(t, nil)
	for n := range 1 << 16 {
		b := []byte{byte(n >> 8), byte(n)}
		wantAsPlain(t, b[1:])
		wantAsPlain(t, b)
		wantPartsAsPlain(t, b, 0)
		wantPartsAsPlain(t, b, 1)
	}
	few := []byte{0, 1, 2, 0x80}
	var play func(b []byte, left int)
	play = func(b []byte, left int) {
		wantAsPlain(t, b)
		wantPartsAsPlain(t, b[3:], 0)
		if left > 0 {
			for _, c := range few {
				play(append(b, c), left-1)
			}
		}
	}
	for kind := range byte(12) {
		play([]byte{kind, 0, 0}, 7)
	}
}

// TestModelLists: all pairs of short writes in a list, of the key and of another one.
func TestModelLists(t *testing.T) {
	var writes [][]byte
	for _, node := range []byte{0, 1, 2} {
		for _, count := range []byte{0, 1, 2, 3} {
			for _, key := range []string{"", "k", "j", "kk"} {
				for _, rest := range [][]byte{nil, {1}, {1, 0}, {2, 0}, {1, 1, 1, 1, 0}, {1, 1, 1, 0, 2}, {0, 1, 'v', 1, 1, 2, 0}} {
					writes = append(writes, slices.Concat([]byte{node, count, byte(len(key))}, []byte(key), rest))
				}
			}
		}
	}
	for _, head := range [][]byte{{5, 0, 0, 0, 1, 'k', 0, 2}, {7, 0, 0, 0, 0, 1, 'k', 2}, {9, 0, 0, 0, 0, 2}} {
		for _, first := range writes {
			wantAsPlain(t, slices.Concat(head, first))
			for _, second := range writes {
				wantAsPlain(t, slices.Concat(head, first, second))
			}
		}
	}
}
