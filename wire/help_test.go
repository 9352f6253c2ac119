package wire

import (
	"bytes"
	"encoding/hex"
	"slices"
	"strings"
	"testing"

	"rookery/api"
)

// hx: bytes from their hexadecimal digits.
func hx(t *testing.T, text string) []byte {
	t.Helper()
	b, err := hex.DecodeString(strings.ReplaceAll(text, " ", ""))
	if err != nil {
		t.Fatal(err)
	}
	return b
}

// sp: a span: its node, its base, the counts beyond it.
func sp(node, base int, beyond ...int) api.Span {
	x := api.Span{Node: node, Base: base}
	for _, c := range beyond {
		x.Bits |= 1 << (c - base - 1)
	}
	return x
}

func spans(s ...api.Span) []api.Span { return s }

func dot(node, count int) api.Dot { return api.Dot{Node: node, Count: count} }

// wr: a write of the key k.
func wr(node, count int, ctx ...api.Span) api.Write {
	return api.Write{Dot: dot(node, count), Key: "k", Value: []byte{byte(node), byte(count)}, Ctx: ctx}
}

// of: the same write, of another key.
func of(key string, w api.Write) api.Write {
	w.Key = key
	return w
}

// with: the same write, with another value.
func with(value string, w api.Write) api.Write {
	w.Value = []byte(value)
	return w
}

// gone: the same write, dead.
func gone(w api.Write) api.Write {
	w.Dead, w.Value = true, nil
	return w
}

func list(l ...api.Write) []api.Write { return l }

// row: so many writes of a key, by rising dots.
func row(key string, n int) []api.Write {
	var l []api.Write
	for i := range n {
		l = append(l, of(key, wr(i%api.MaxNodes, 1+i/api.MaxNodes)))
	}
	slices.SortStableFunc(l, func(a, b api.Write) int { return a.Dot.Node - b.Dot.Node })
	return l
}

const longKey = "0123456789abcdef"

var longValue = strings.Repeat("\x00\xff\x80v", 16)

// eight: a set that names every node, at many of the edges.
func eight() []api.Span {
	return spans(sp(0, 0, 2), sp(1, 1), sp(2, api.MaxCount), sp(3, api.MaxCount-2, api.MaxCount), sp(4, 0, 64),
		sp(5, api.MaxCount-64, api.MaxCount), sp(6, 7, 9, 70, 71), api.Span{Node: 7, Base: 9, Bits: 1<<64 - 2})
}

// plainEight: a set that names every node, without bits.
func plainEight() []api.Span {
	return spans(sp(0, 1), sp(1, 127), sp(2, 128), sp(3, 300), sp(4, 16383), sp(5, 16384), sp(6, api.MaxCount-1), sp(7, api.MaxCount))
}

// widest: the write with the most of everything.
func widest(node, count int) api.Write {
	ctx := eight()
	ctx[node] = sp(node, count-1, count+1)
	if count == api.MaxCount {
		ctx[node] = sp(node, count-1)
	}
	return api.Write{Dot: dot(node, count), Key: longKey, Value: []byte(longValue), Ctx: ctx}
}

// samples: messages that are ones: of every kind one with little and one with much.
func samples() []api.Msg {
	return []api.Msg{
		{Kind: 1, Writes: list(with("", wr(0, 1)))},
		{Kind: 1, From: 7, To: 6, Call: api.MaxCalls, Writes: list(widest(7, api.MaxCount))},
		{Kind: 2},
		{Kind: 2, From: 7, To: 7, Call: 128, Owner: 7},
		{Kind: 3, Writes: list(gone(wr(0, 1)))},
		{Kind: 3, From: 1, To: 2, Call: 127, Owner: 3, Writes: list(widest(0, 300))},
		{Kind: 4, Key: "k"},
		{Kind: 4, From: 3, To: 1, Call: 16, Key: longKey},
		{Kind: 5, Key: "\x00"},
		{Kind: 5, From: 1, To: 4, Call: 300, Key: "k", Set: plainEight(), Writes: row("k", api.MaxSiblings)},
		{Kind: 6, Key: "\xff"},
		{Kind: 6, From: 2, To: 5, Call: 1, Owner: 6, Key: longKey},
		{Kind: 7, Key: "k"},
		{Kind: 7, From: 5, To: 2, Call: 1, Owner: 6, Key: "ab", Writes: row("ab", api.MaxHints)},
		{Kind: 8},
		{Kind: 8, From: 6, To: 1, Range: api.MaxRanges - 1, Set: eight()},
		{Kind: 9},
		{Kind: 9, From: 1, To: 3, Range: 9, Set: eight(), Writes: list(wr(0, 2, sp(0, 1)), of("ab", wr(0, 3)), gone(wr(1, 1, eight()[0])), widest(1, 2), with("", of("k", wr(7, 1))))},
		{Kind: 10, Writes: list(gone(of("\xc3", wr(3, 128, sp(3, 127)))))},
		{Kind: 10, From: 1, To: 3, Writes: list(widest(4, 99))},
		{Kind: 11, Key: "k", Dot: dot(0, 1)},
		{Kind: 11, From: 4, To: 5, Key: longKey, Dot: dot(7, api.MaxCount)},
	}
}

func sameWrite(a, b api.Write) bool {
	return a.Dot == b.Dot && a.Key == b.Key && a.Dead == b.Dead && bytes.Equal(a.Value, b.Value) && slices.Equal(a.Ctx, b.Ctx)
}

func sameMsg(a, b api.Msg) bool {
	return a.Kind == b.Kind && a.From == b.From && a.To == b.To && a.Call == b.Call && a.Range == b.Range && a.Owner == b.Owner &&
		a.Key == b.Key && a.Dot == b.Dot && slices.Equal(a.Set, b.Set) && slices.EqualFunc(a.Writes, b.Writes, sameWrite)
}

// encoded: a message's bytes, of a message that is one.
func encoded(t *testing.T, m api.Msg) []byte {
	t.Helper()
	b, err := Encode(m)
	if err != api.OK {
		t.Fatalf("Encode(%+v): %d", m, err)
	}
	return b
}

// wantDecoded: the bytes are this message.
func wantDecoded(t *testing.T, b []byte, want api.Msg) {
	t.Helper()
	if m, at, err := Decode(b); !sameMsg(m, want) || at != 0 || err != api.OK {
		t.Errorf("Decode(% x): %+v, %d, %d; want %+v, 0, 0", b, m, at, err, want)
	}
}

// wantWrong: the bytes are no message, and go wrong at this place.
func wantWrong(t *testing.T, b []byte, at int) {
	t.Helper()
	if m, got, err := Decode(b); !zeroMsg(m) || got != at || err != api.ErrWire {
		t.Errorf("Decode(% x): %+v, %d, %d; want nothing, %d, ErrWire", b, m, got, err, at)
	}
}

// zeroMsg: nothing at all: not even an empty list.
func zeroMsg(m api.Msg) bool { return sameMsg(m, api.Msg{}) && m.Set == nil && m.Writes == nil }

func zeroWrite(w api.Write) bool {
	return sameWrite(w, api.Write{}) && w.Value == nil && w.Ctx == nil
}

func wantGetWrite(t *testing.T, b []byte, at int, want api.Write, end int) {
	t.Helper()
	if w, got, err := GetWrite(b, at); !sameWrite(w, want) || got != end || err != api.OK {
		t.Errorf("GetWrite(% x, %d): %+v, %d, %d; want %+v, %d, 0", b, at, w, got, err, want, end)
	}
}

func wantNoWrite(t *testing.T, b []byte, at, place int, want api.Errno) {
	t.Helper()
	if w, got, err := GetWrite(b, at); !zeroWrite(w) || got != place || err != want {
		t.Errorf("GetWrite(% x, %d): %+v, %d, %d; want nothing, %d, %d", b, at, w, got, err, place, want)
	}
}

func wantGetSet(t *testing.T, b []byte, at int, want []api.Span, end int) {
	t.Helper()
	if s, got, err := GetSet(b, at); !slices.Equal(s, want) || got != end || err != api.OK {
		t.Errorf("GetSet(% x, %d): %v, %d, %d; want %v, %d, 0", b, at, s, got, err, want, end)
	}
}

func wantNoSet(t *testing.T, b []byte, at, place int, want api.Errno) {
	t.Helper()
	if s, got, err := GetSet(b, at); s != nil || got != place || err != want {
		t.Errorf("GetSet(% x, %d): %v, %d, %d; want nothing, %d, %d", b, at, s, got, err, place, want)
	}
}

func wantBytes(t *testing.T, what string, b []byte, err api.Errno, want []byte) {
	t.Helper()
	if !bytes.Equal(b, want) || err != api.OK {
		t.Errorf("%s: % x, %d; want % x, 0", what, b, err, want)
	}
}

func wantRefused(t *testing.T, what string, b []byte, err, want api.Errno) {
	t.Helper()
	if b != nil || err != want {
		t.Errorf("%s: % x, %d; want nothing, %d", what, b, err, want)
	}
}
