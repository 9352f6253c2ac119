package page

import (
	"bytes"
	"encoding/hex"
	"slices"
	"strings"
	"testing"

	"rookery/api"
)

// hx: bytes from their hexadecimal digits.
func hx(t *testing.T, text string) []byte {
	t.Helper()
	b, err := hex.DecodeString(strings.ReplaceAll(text, " ", ""))
	if err != nil {
		t.Fatal(err)
	}
	return b
}

// full: the bytes with zeros behind them, up to a page's size.
func full(b []byte) []byte { return append(slices.Clip(b), make([]byte, 2048-len(b))...) }

// pg: the page that begins with these hexadecimal digits.
func pg(t *testing.T, text string) []byte {
	t.Helper()
	return full(hx(t, text))
}

// sp: a span: its node, its base, the counts beyond it.
func sp(node, base int, beyond ...int) api.Span {
	x := api.Span{Node: node, Base: base}
	for _, c := range beyond {
		x.Bits |= 1 << (c - base - 1)
	}
	return x
}

func spans(s ...api.Span) []api.Span { return s }

func dot(node, count int) api.Dot { return api.Dot{Node: node, Count: count} }

// wr: a write of the key k.
func wr(node, count int, ctx ...api.Span) api.Write {
	return api.Write{Dot: dot(node, count), Key: "k", Value: []byte{byte(node), byte(count)}, Ctx: ctx}
}

// of: the same write, of another key.
func of(key string, w api.Write) api.Write {
	w.Key = key
	return w
}

// with: the same write, with another value.
func with(value string, w api.Write) api.Write {
	w.Value = []byte(value)
	return w
}

// gone: the same write, dead.
func gone(w api.Write) api.Write {
	w.Dead, w.Value = true, nil
	return w
}

func list(l ...api.Write) []api.Write { return l }

// row: so many writes of a key, by rising dots.
func row(key string, n int) []api.Write {
	var l []api.Write
	for i := range n {
		l = append(l, of(key, wr(i/2, 1+i%2)))
	}
	return l
}

func cl(at int, s ...api.Span) api.Clock { return api.Clock{Range: at, Set: s} }

func clocks(l ...api.Clock) []api.Clock { return l }

const (
	longKey = "0123456789abcdef"
	topGen  = 281474976710655
)

var longValue = strings.Repeat("\x00\xff\x80v", 16)

// eight: a set that names every node, at many of the edges.
func eight() []api.Span {
	return spans(sp(0, 0, 2), sp(1, 1), sp(2, api.MaxCount), sp(3, api.MaxCount-2, api.MaxCount), sp(4, 0, 64),
		sp(5, api.MaxCount-64, api.MaxCount), sp(6, 0x78081, 0x78083, 0x78090), api.Span{Node: 7, Base: 9, Bits: 1<<64 - 2})
}

// widest: the write with the most of everything.
func widest(node, count int) api.Write {
	ctx := eight()
	ctx[node] = sp(node, count-1, count+1)
	if count == api.MaxCount {
		ctx[node] = sp(node, count-1)
	}
	return api.Write{Dot: dot(node, count), Key: longKey, Value: []byte(longValue), Ctx: ctx}
}

// content: what a page says, whatever its kind: a hint's write is its only one.
type content struct {
	kind, gen, owner int
	clocks           []api.Clock
	writes           []api.Write
}

func ofClocks(gen int, l ...api.Clock) content {
	return content{kind: 1, gen: gen, clocks: l}
}

func ofKey(l ...api.Write) content { return content{kind: 2, writes: l} }

func ofHint(owner int, w api.Write) content {
	return content{kind: 3, owner: owner, writes: list(w)}
}

// samples: contents of every kind, with little and with much.
func samples() []content {
	var most content
	most.kind, most.gen = 1, topGen
	for i := range api.MaxRanges {
		most.clocks = append(most.clocks, cl(i, eight()...))
	}
	var many []api.Write
	for i := range api.MaxSiblings {
		many = append(many, widest(i, api.MaxCount-i))
	}
	return []content{
		ofClocks(0), ofClocks(5), ofClocks(0x060504030201, cl(0)), ofClocks(1, cl(15, sp(7, 1))), ofClocks(256, cl(2, sp(0, 3), sp(2, 0, 2)), cl(3), cl(9, eight()...)), most,
		ofKey(with("", wr(0, 1))), ofKey(gone(wr(7, api.MaxCount))), ofKey(with("v", of("\x00", wr(1, 0x0A0B0C, sp(0, 1))))), ofKey(row("ab", 8)...), ofKey(many...),
		ofKey(wr(0, 2, sp(0, 1)), gone(wr(0, 3)), with(longValue, wr(1, 1, eight()[0])), with("\x00", wr(1, 2, sp(1, 1), sp(7, 300, 302))), gone(wr(7, 1, eight()[1:7]...))),
		ofHint(0, with("", wr(0, 1))), ofHint(4, gone(wr(0, 1))), ofHint(7, widest(7, api.MaxCount)), ofHint(3, of("\xff\x00", wr(3, 300, sp(3, 299, 301)))),
	}
}

func sameWrite(a, b api.Write) bool {
	return a.Dot == b.Dot && a.Key == b.Key && a.Dead == b.Dead && bytes.Equal(a.Value, b.Value) && slices.Equal(a.Ctx, b.Ctx)
}

func sameClock(a, b api.Clock) bool { return a.Range == b.Range && slices.Equal(a.Set, b.Set) }

func sameContent(a, b content) bool {
	return a.kind == b.kind && a.gen == b.gen && a.owner == b.owner &&
		slices.EqualFunc(a.clocks, b.clocks, sameClock) && slices.EqualFunc(a.writes, b.writes, sameWrite)
}

func build(c content) ([]byte, api.Errno) {
	switch c.kind {
	case 1:
		return BuildClocks(c.gen, c.clocks)
	case 2:
		return BuildKey(c.writes)
	}
	return BuildHint(api.Hint{Owner: c.owner, Write: c.writes[0]})
}

// built: a content's page, of a content that has one.
func built(t *testing.T, c content) []byte {
	t.Helper()
	b, err := build(c)
	if err != api.OK {
		t.Fatalf("the page of %+v: %d", c, err)
	}
	return b
}

func opened(t *testing.T, b []byte) *View {
	t.Helper()
	v, err := Open(b)
	if v == nil || err != api.OK {
		t.Fatalf("Open(% x ..): %d", b[:min(len(b), 40)], err)
	}
	return v
}

// told: what a view tells, by its calls.
func told(t *testing.T, v *View) content {
	t.Helper()
	c := content{kind: v.Kind(), gen: v.Gen(), owner: v.Owner()}
	for i := range v.Len() {
		var err api.Errno
		if c.kind == 1 {
			var x api.Clock
			x, err = v.Clock(i)
			c.clocks = append(c.clocks, x)
		} else {
			var x api.Write
			x, err = v.Write(i)
			c.writes = append(c.writes, x)
		}
		if err != api.OK {
			t.Fatalf("the thing %d of a page of the kind %d: %d", i, c.kind, err)
		}
	}
	return c
}

func wantPage(t *testing.T, what string, b []byte, err api.Errno, want []byte) {
	t.Helper()
	if !bytes.Equal(b, want) || err != api.OK {
		t.Errorf("%s: % x, %d; want % x, 0", what, bytes.TrimRight(b, "\x00"), err, bytes.TrimRight(want, "\x00"))
	}
}

func wantRefused(t *testing.T, what string, b []byte, err, want api.Errno) {
	t.Helper()
	if b != nil || err != want {
		t.Errorf("%s: %d bytes, %d; want nothing, %d", what, len(b), err, want)
	}
}

// wantRight: the bytes are a page of this kind.
func wantRight(t *testing.T, b []byte, kind int) {
	t.Helper()
	if got, at, err := Check(b); got != kind || at != 0 || err != api.OK {
		t.Errorf("Check(% x ..): %d, %d, %d; want %d, 0, 0", bytes.TrimRight(b, "\x00"), got, at, err, kind)
	}
	if v, err := Open(b); v == nil || err != api.OK {
		t.Errorf("Open(% x ..): %d", bytes.TrimRight(b, "\x00"), err)
	}
}

// wantWrong: the bytes are no page: the field at this place is wrong.
func wantWrong(t *testing.T, b []byte, at int) {
	t.Helper()
	if kind, got, err := Check(b); kind != 0 || got != at || err != api.ErrPage {
		t.Errorf("Check(% x ..): %d, %d, %d; want 0, %d, ErrPage", bytes.TrimRight(b, "\x00"), kind, got, err, at)
	}
	if v, err := Open(b); v != nil || err != api.ErrPage {
		t.Errorf("Open(% x ..): %v, %d; want nothing, ErrPage", bytes.TrimRight(b, "\x00"), v, err)
	}
}

// wantAt: the field at this place is wrong; none, if it is -1.
func wantAt(t *testing.T, b []byte, at int) {
	t.Helper()
	if at < 0 {
		wantRight(t, b, int(b[0]))
	} else {
		wantWrong(t, b, at)
	}
}
