package wire

import (
	"slices"

	"rookery/api"
)

// field: one of those that a message is written as, in plain words: its name, and its number or its bytes.
type field struct {
	name   string
	number uint64
	text   []byte // of Key and Value
}

// table: P602's, by kinds. A write stands for one, writes for a list of them.
func table(kind int) []string {
	return [][]string{nil,
		{"Call", "write"}, {"Call", "Owner"}, {"Call", "Owner", "write"}, {"Call", "Key"}, {"Call", "Key", "Set", "writes"},
		{"Call", "Owner", "Key"}, {"Call", "Owner", "Key", "writes"}, {"Range", "Set"}, {"Range", "Set", "writes"}, {"write"}, {"Key", "Dot"},
	}[kind]
}

// plainNumber: P603, group by group.
func plainNumber(n uint64) []byte {
	groups := []byte{byte(n & 127)}
	for n >>= 7; n > 0; n >>= 7 {
		groups = append(groups, byte(n&127))
	}
	for i := range len(groups) - 1 {
		groups[i] += 128
	}
	return groups
}

func (f field) bytes() []byte {
	if f.name == "key" || f.name == "value" {
		return f.text
	}
	return plainNumber(f.number)
}

func join(fields []field) []byte {
	var b []byte
	for _, f := range fields {
		b = append(b, f.bytes()...)
	}
	return b
}

func number(name string, n int) field { return field{name: name, number: uint64(n)} }

func textFields(name string, text []byte) []field {
	return []field{number(name+" length", len(text)), {name: name, text: text}}
}

func dotFields(d api.Dot) []field { return []field{number("Node", d.Node), number("Count", d.Count)} }

func setFields(s []api.Span) []field {
	l := []field{number("spans", len(s))}
	for _, x := range s {
		l = append(l, number("span Node", x.Node), number("Base", x.Base), field{name: "Bits", number: x.Bits})
	}
	return l
}

func writeFields(w api.Write) []field {
	l := append(dotFields(w.Dot), textFields("key", []byte(w.Key))...)
	if w.Dead {
		l = append(l, number("dead", 1))
	} else {
		l = append(append(l, number("dead", 0)), textFields("value", w.Value)...)
	}
	return append(l, setFields(w.Ctx)...)
}

// msgFields: P604: a message's fields, one behind the other.
func msgFields(m api.Msg) []field {
	l := []field{number("Kind", m.Kind), number("From", m.From), number("To", m.To)}
	for _, name := range table(m.Kind) {
		switch name {
		case "Call":
			l = append(l, number("Call", m.Call))
		case "Owner":
			l = append(l, number("Owner", m.Owner))
		case "Range":
			l = append(l, number("Range", m.Range))
		case "Key":
			l = append(l, textFields("key", []byte(m.Key))...)
		case "Dot":
			l = append(l, dotFields(m.Dot)...)
		case "Set":
			l = append(l, setFields(m.Set)...)
		case "write":
			l = append(l, writeFields(m.Writes[0])...)
		case "writes":
			l = append(l, number("writes", len(m.Writes)))
			for _, w := range m.Writes {
				l = append(l, writeFields(w)...)
			}
		}
	}
	return l
}

// plainReader: P606 to P608 without a panic: the first place at which it went wrong stays, and nothing is read behind it.
type plainReader struct {
	b    []byte
	at   int
	bad  int
	fine bool
}

func (p *plainReader) fail(at int) {
	if p.fine {
		p.bad, p.fine = at, false
	}
}

// number tells a number, the place where it began, and whether it could be read in its form.
func (p *plainReader) number() (uint64, int, bool) {
	begin := p.at
	for i := 1; p.fine; i++ {
		if begin+i > len(p.b) {
			p.fail(len(p.b))
			break
		}
		if c := p.b[begin+i-1]; c >= 128 && i < 10 {
			continue
		}
		var n uint64
		for _, c := range slices.Backward(p.b[begin : begin+i]) {
			n = n<<7 | uint64(c&127)
		}
		p.at = begin + i
		// its one form is what it is written as
		if !slices.Equal(plainNumber(n), p.b[begin:p.at]) {
			p.fail(begin)
			break
		}
		return n, begin, true
	}
	return 0, begin, false
}

func (p *plainReader) upTo(least, most uint64) int {
	n, begin, ok := p.number()
	if ok && (n < least || n > most) {
		p.fail(begin)
	}
	if !p.fine {
		return 0
	}
	return int(n)
}

func (p *plainReader) text(least, most uint64) []byte {
	n := p.upTo(least, most)
	if p.fine && p.at+n > len(p.b) {
		p.fail(len(p.b))
	}
	if !p.fine {
		return nil
	}
	p.at += n
	return slices.Clone(p.b[p.at-n : p.at])
}

func (p *plainReader) dot() api.Dot {
	node := p.upTo(0, 7)
	return dot(node, p.upTo(1, 1<<20))
}

func (p *plainReader) set(tell bool) []api.Span {
	var s []api.Span
	for left := p.upTo(0, 8); left > 0 && p.fine; left-- {
		begin := p.at
		x := api.Span{Node: p.upTo(0, 7)}
		if p.fine && len(s) > 0 && x.Node <= s[len(s)-1].Node {
			p.fail(begin)
		}
		x.Base = p.upTo(0, 1<<20)
		bits, begin, ok := p.number()
		x.Bits = bits
		above := false
		for i := range 64 {
			above = above || bits>>i&1 == 1 && (i == 0 || x.Base+1+i > 1<<20)
		}
		if ok && (above || x.Base == 0 && bits == 0 || tell && bits != 0) {
			p.fail(begin)
		}
		s = append(s, x)
	}
	return s
}

// knows: whether the set has the dot, bit by bit.
func knows(s []api.Span, d api.Dot) bool {
	for _, x := range s {
		for i := range 64 {
			if x.Node == d.Node && (d.Count <= x.Base || x.Bits>>i&1 == 1 && d.Count == x.Base+1+i) {
				return true
			}
		}
	}
	return false
}

// write: ahead is the list's write ahead of it, or nil; key the key that it must have, or empty.
func (p *plainReader) write(ahead *api.Write, key string) api.Write {
	begin := p.at
	w := api.Write{Dot: p.dot()}
	if ahead != nil && (w.Dot.Node < ahead.Dot.Node || w.Dot.Node == ahead.Dot.Node && w.Dot.Count <= ahead.Dot.Count) {
		p.fail(begin)
	}
	w.Key = string(p.text(1, 16))
	if key != "" && w.Key != key {
		p.fail(begin)
	}
	w.Dead = p.upTo(0, 1) == 1
	if !w.Dead {
		w.Value = p.text(0, 64)
	}
	begin = p.at
	w.Ctx = p.set(false)
	if knows(w.Ctx, w.Dot) {
		p.fail(begin)
	}
	return w
}

func (p *plainReader) writes(most uint64, key string) []api.Write {
	var l []api.Write
	var ahead *api.Write
	for left := p.upTo(0, most); left > 0 && p.fine; left-- {
		l = append(l, p.write(ahead, key))
		ahead = &l[len(l)-1]
	}
	return l
}

func (p *plainReader) message() api.Msg {
	m := api.Msg{Kind: p.upTo(1, 11), From: p.upTo(0, 7), To: p.upTo(0, 7)}
	for _, name := range table(m.Kind) {
		switch name {
		case "Call":
			m.Call = p.upTo(0, 4096)
		case "Owner":
			m.Owner = p.upTo(0, 7)
		case "Range":
			m.Range = p.upTo(0, 15)
		case "Key":
			m.Key = string(p.text(1, 16))
		case "Dot":
			m.Dot = p.dot()
		case "Set":
			m.Set = p.set(m.Kind == api.MsgTell)
		case "write":
			m.Writes = list(p.write(nil, ""))
		case "writes":
			m.Writes = p.writes(map[int]uint64{api.MsgTell: 8, api.MsgFound: 32, api.MsgShip: 512}[m.Kind], m.Key)
		}
	}
	if p.at < len(p.b) {
		p.fail(p.at)
	}
	return m
}

// end: what a reading answers beside what it read.
func (p *plainReader) end() (int, api.Errno) {
	if p.fine {
		return p.at, api.OK
	}
	return p.bad, api.ErrWire
}

func plainDecode(b []byte) (api.Msg, int, api.Errno) {
	p := &plainReader{b: b, fine: true}
	m := p.message()
	if at, err := p.end(); err != api.OK {
		return api.Msg{}, at, err
	}
	return m, 0, api.OK
}

func plainGetWrite(b []byte, at int) (api.Write, int, api.Errno) {
	if at < 0 || at > len(b) {
		return api.Write{}, 0, api.ErrArg
	}
	p := &plainReader{b: b, at: at, fine: true}
	w := p.write(nil, "")
	end, err := p.end()
	if err != api.OK {
		w = api.Write{}
	}
	return w, end, err
}

func plainGetSet(b []byte, at int) ([]api.Span, int, api.Errno) {
	if at < 0 || at > len(b) {
		return nil, 0, api.ErrArg
	}
	p := &plainReader{b: b, at: at, fine: true}
	s := p.set(false)
	end, err := p.end()
	if err != api.OK {
		s = nil
	}
	return s, end, err
}
