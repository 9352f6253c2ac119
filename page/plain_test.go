package page

import (
	"bytes"
	"slices"

	"rookery/api"
)

// field: a number of so many bytes, or (size 0) a text.
type field struct {
	name   string
	size   int
	number uint64
	text   []byte
}

func (f field) bytes() []byte {
	if f.size == 0 {
		return f.text
	}
	b := make([]byte, f.size)
	for i := range b {
		b[i] = byte(f.number >> (8 * i) & 255)
	}
	return b
}

func join(fields []field) []byte {
	var b []byte
	for _, f := range fields {
		b = append(b, f.bytes()...)
	}
	return b
}

func num(name string, size, n int) field { return field{name: name, size: size, number: uint64(n)} }

func txt(name string, b []byte) field { return field{name: name, text: b} }

func setFields(s []api.Span) []field {
	l := []field{num("spans", 1, len(s))}
	for _, x := range s {
		l = append(l, num("span node", 1, x.Node), num("base", 4, x.Base), field{name: "bits", size: 8, number: x.Bits})
	}
	return l
}

func keyFields(key string) []field {
	return []field{num("key length", 1, len(key)), txt("key", []byte(key))}
}

func writeFields(w api.Write) []field {
	l := []field{num("node", 1, w.Dot.Node), num("count", 4, w.Dot.Count), num("dead", 1, 0), num("value length", 1, len(w.Value)), txt("value", w.Value)}
	if w.Dead {
		l[2].number = 1
	}
	return append(l, setFields(w.Ctx)...)
}

// fieldsOf: a content's fields, in the order in which they stand.
func fieldsOf(c content) []field {
	l := []field{num("kind", 1, c.kind)}
	switch c.kind {
	case 1:
		l = append(l, num("gen", 6, c.gen), num("clocks", 1, len(c.clocks)))
		for _, x := range c.clocks {
			l = append(l, num("range", 1, x.Range))
			l = append(l, setFields(x.Set)...)
		}
		return l
	case 2:
		l = append(l, keyFields(c.writes[0].Key)...)
		l = append(l, num("writes", 1, len(c.writes)))
	case 3:
		l = append(l, num("owner", 1, c.owner))
		l = append(l, keyFields(c.writes[0].Key)...)
	}
	for _, w := range c.writes {
		l = append(l, writeFields(w)...)
	}
	return l
}

// plainReader reads a page to a content, with one rule of P705 behind the other; bad is the first wrong place, or -1.
type plainReader struct {
	b   []byte
	at  int
	bad int
}

func (p *plainReader) fine() bool { return p.bad < 0 }

// take reads a number; wrong tells whether it may not stand there.
func (p *plainReader) take(size int, wrong func(n uint64) bool) uint64 {
	if !p.fine() {
		return 0
	}
	var n uint64
	for i := size - 1; i >= 0; i-- {
		n = n*256 + uint64(p.b[p.at+i])
	}
	if wrong(n) {
		p.bad = p.at
	}
	p.at += size
	return n
}

func outside(least, most uint64) func(n uint64) bool {
	return func(n uint64) bool { return n < least || n > most }
}

func (p *plainReader) text(least, most uint64) []byte {
	n := int(p.take(1, outside(least, most)))
	if !p.fine() {
		return nil
	}
	p.at += n
	return slices.Clone(p.b[p.at-n : p.at])
}

// counts: the counts of a span, one by one; of the base the greatest few alone, and the one that is asked for.
func counts(x api.Span, asked int) []int {
	var l []int
	if asked <= x.Base {
		l = append(l, asked)
	}
	for i := range 64 {
		if x.Bits>>i&1 == 1 {
			l = append(l, x.Base+1+i)
		}
	}
	return l
}

func (p *plainReader) set(own *api.Dot) []api.Span {
	var s []api.Span
	for left := p.take(1, outside(0, 8)); left > 0 && p.fine(); left-- {
		var x api.Span
		x.Node = int(p.take(1, func(n uint64) bool {
			return n > 7 || len(s) > 0 && int(n) <= s[len(s)-1].Node
		}))
		x.Base = int(p.take(4, func(n uint64) bool { return n > 1048576 }))
		x.Bits = p.take(8, func(n uint64) bool {
			y := api.Span{Node: x.Node, Base: x.Base, Bits: n}
			if n%2 == 1 || n == 0 && x.Base == 0 || slices.ContainsFunc(counts(y, 1), func(c int) bool { return c > 1048576 }) {
				return true
			}
			return own != nil && own.Node == y.Node && slices.Contains(counts(y, own.Count), own.Count)
		})
		s = append(s, x)
	}
	return s
}

func (p *plainReader) write(key []byte, ahead *api.Write) api.Write {
	w := api.Write{Key: string(key)}
	w.Dot.Node = int(p.take(1, func(n uint64) bool { return n > 7 || ahead != nil && int(n) < ahead.Dot.Node }))
	w.Dot.Count = int(p.take(4, func(n uint64) bool {
		return n == 0 || n > 1048576 || ahead != nil && ahead.Dot.Node == w.Dot.Node && int(n) <= ahead.Dot.Count
	}))
	w.Dead = p.take(1, outside(0, 1)) == 1
	if w.Dead {
		p.take(1, outside(0, 0))
	} else {
		w.Value = p.text(0, 64)
	}
	w.Ctx = p.set(&w.Dot)
	return w
}

func (p *plainReader) content() content {
	c := content{kind: int(p.take(1, outside(1, 3)))}
	var key []byte
	left := uint64(1)
	switch {
	case !p.fine():
		return c
	case c.kind == 1:
		c.gen = int(p.take(6, outside(0, topGen)))
		for left := p.take(1, outside(0, 16)); left > 0 && p.fine(); left-- {
			at := p.take(1, func(n uint64) bool {
				return n > 15 || len(c.clocks) > 0 && int(n) <= c.clocks[len(c.clocks)-1].Range
			})
			c.clocks = append(c.clocks, api.Clock{Range: int(at), Set: p.set(nil)})
		}
		left = 0
	case c.kind == 2:
		key = p.text(1, 16)
		left = p.take(1, outside(1, 8))
	case c.kind == 3:
		c.owner = int(p.take(1, outside(0, 7)))
		key = p.text(1, 16)
	}
	var ahead *api.Write
	for ; left > 0 && p.fine(); left-- {
		c.writes = append(c.writes, p.write(key, ahead))
		ahead = &c.writes[len(c.writes)-1]
	}
	if rest := bytes.TrimLeft(p.b[p.at:], "\x00"); p.fine() && len(rest) > 0 {
		p.bad = len(p.b) - len(rest)
	}
	return c
}

// plainRead: what a page says; else the place of the first wrong field, which is -1 of a page.
func plainRead(b []byte) (content, int) {
	switch {
	case len(b) > 2048:
		return content{}, 2048
	case len(b) < 2048:
		return content{}, len(b)
	}
	p := &plainReader{b: b, bad: -1}
	c := p.content()
	if !p.fine() {
		return content{}, p.bad
	}
	return c, -1
}
