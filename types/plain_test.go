package types

import (
	"bytes"
	"encoding/binary"
	"maps"
	"slices"
	"strings"

	"rookery/api"
)

// tag: of an element (a flag's is empty) an actor and a number.
type tag struct {
	element   string
	actor, no int
}

// plain: a value of any type, with each tag by itself.
type plain struct {
	kind     int
	up, down [8]int
	count    [8]int
	tags     map[tag]int
	stamp    int
	actor    int
	text     string
}

func newPlain(kind int) *plain {
	return &plain{kind: kind, tags: map[tag]int{}}
}

func (p *plain) copied() *plain {
	q := *p
	q.tags = maps.Clone(p.tags)
	return &q
}

// met: whether what the tag names has been done here, or merged in.
func (p *plain) met(x tag) bool { return x.no <= p.count[x.actor] }

func (p *plain) elements() []string {
	all := map[string]int{}
	for x := range p.tags {
		all[x.element] = 1
	}
	return slices.Sorted(maps.Keys(all))
}

func (p *plain) sum() int {
	n := 0
	for actor := range 8 {
		n += p.up[actor] - p.down[actor]
	}
	return n
}

// three: a number's lowest three bytes.
func three(n int) []byte { return binary.LittleEndian.AppendUint32(nil, uint32(n))[:3] }

// two: a number's lowest two bytes.
func two(n int) []byte { return binary.LittleEndian.AppendUint16(nil, uint16(n)) }

// rowOf: what each actor has to say, if it has something.
func rowOf(say func(actor int) []byte) []byte {
	out := []byte{0}
	for actor := range 8 {
		if b := say(actor); len(b) > 0 {
			out[0] += 1 << actor
			out = append(out, b...)
		}
	}
	return out
}

func (p *plain) tagRow(element string) []byte {
	return rowOf(func(actor int) []byte {
		for x := range p.tags {
			if x.element == element && x.actor == actor {
				return two(x.no)
			}
		}
		return nil
	})
}

func (p *plain) countRow() []byte {
	return rowOf(func(actor int) []byte {
		if n := p.count[actor]; n > 0 {
			return two(n)
		}
		return nil
	})
}

// form: the bytes of P1905.
func (p *plain) form() []byte {
	switch p.kind {
	case Counter:
		return append([]byte{1}, rowOf(func(actor int) []byte {
			if p.up[actor]+p.down[actor] == 0 {
				return nil
			}
			return append(three(p.up[actor]), three(p.down[actor])...)
		})...)
	case Set:
		out := append([]byte{2}, p.countRow()...)
		out = append(out, byte(len(p.elements())))
		for _, e := range p.elements() {
			out = append(out, byte(len(e)))
			out = append(out, e...)
			out = append(out, p.tagRow(e)...)
		}
		return out
	case Flag:
		return slices.Concat([]byte{3}, p.countRow(), p.tagRow(""))
	}
	return slices.Concat([]byte{4}, three(p.stamp), []byte{byte(p.actor)}, []byte(p.text))
}

// merge: a tag that one alone has goes, if the other one has met it.
func (p *plain) merge(o *plain) {
	tags := map[tag]int{}
	for x := range p.tags {
		if o.tags[x] == 1 || !o.met(x) {
			tags[x] = 1
		}
	}
	for x := range o.tags {
		if p.tags[x] == 1 || !p.met(x) {
			tags[x] = 1
		}
	}
	p.tags = tags
	for actor := range 8 {
		p.count[actor] = max(p.count[actor], o.count[actor])
		p.up[actor] = max(p.up[actor], o.up[actor])
		p.down[actor] = max(p.down[actor], o.down[actor])
	}
	if p.stamp < o.stamp || p.stamp == o.stamp && (p.actor < o.actor || p.actor == o.actor && strings.Compare(p.text, o.text) < 0) {
		p.stamp, p.actor, p.text = o.stamp, o.actor, o.text
	}
}

func wrongActor(actor int) bool { return actor < 0 || actor > 7 }

func (p *plain) add(actor, by int) api.Errno {
	switch {
	case p.kind != Counter:
		return api.ErrType
	case wrongActor(actor):
		return api.ErrActor
	case by > 16777215 || by < -16777215 || by > 0 && p.up[actor] > 16777215-by || by < 0 && p.down[actor] > 16777215+by:
		return api.ErrCount
	case by > 0:
		p.up[actor] += by
	default:
		p.down[actor] -= by
	}
	return api.OK
}

// tagAlone: the actor's next doing is the element's only tag.
func (p *plain) tagAlone(actor int, element string) {
	p.drop(element)
	p.count[actor]++
	p.tags[tag{element, actor, p.count[actor]}] = 1
}

func (p *plain) drop(element string) {
	maps.DeleteFunc(p.tags, func(x tag, _ int) bool { return x.element == element })
}

func (p *plain) put(actor int, element string) api.Errno {
	switch {
	case p.kind != Set:
		return api.ErrType
	case wrongActor(actor):
		return api.ErrActor
	case len(element) == 0 || len(element) > 8:
		return api.ErrArg
	case p.count[actor] == 65535:
		return api.ErrCount
	}
	was := p.copied()
	p.tagAlone(actor, element)
	if len(p.form()) > 64 {
		*p = *was
		return api.ErrWide
	}
	return api.OK
}

func (p *plain) take(element string) api.Errno {
	if p.kind != Set {
		return api.ErrType
	}
	p.drop(element)
	return api.OK
}

func (p *plain) turn(actor int, on bool) api.Errno {
	switch {
	case p.kind != Flag:
		return api.ErrType
	case wrongActor(actor):
		return api.ErrActor
	case on && p.count[actor] == 65535:
		return api.ErrCount
	case on:
		p.tagAlone(actor, "")
	default:
		p.drop("")
	}
	return api.OK
}

func (p *plain) write(actor int, text string) api.Errno {
	switch {
	case p.kind != Register:
		return api.ErrType
	case wrongActor(actor):
		return api.ErrActor
	case len(text) > 59:
		return api.ErrLong
	case p.stamp == 16777215:
		return api.ErrCount
	}
	p.stamp, p.actor, p.text = p.stamp+1, actor, text
	return api.OK
}

// plainRow: reads a row, and hands each actor its part of so many bytes; what is left, and whether there was enough.
func plainRow(b []byte, width int, each func(actor int, part []byte)) ([]byte, bool) {
	if len(b) == 0 {
		return nil, false
	}
	mask := b[0]
	b = b[1:]
	for actor := range 8 {
		if mask&(1<<actor) == 0 {
			continue
		}
		if len(b) < width {
			return nil, false
		}
		each(actor, b[:width])
		b = b[width:]
	}
	return b, true
}

// plainTags: reads a row of tags of an element; how many there are.
func (p *plain) plainTags(b []byte, element string) (left []byte, count int, ok bool) {
	well := true
	b, ok = plainRow(b, 2, func(actor int, part []byte) {
		no := int(binary.LittleEndian.Uint16(part))
		well = well && no >= 1 && no <= p.count[actor]
		p.tags[tag{element, actor, no}] = 1
		count++
	})
	return b, count, ok && well
}

func (p *plain) plainCounts(b []byte) ([]byte, bool) {
	well := true
	b, ok := plainRow(b, 2, func(actor int, part []byte) {
		n := int(binary.LittleEndian.Uint16(part))
		well = well && n > 0
		p.count[actor] = n
	})
	return b, ok && well
}

// plainRead: what bytes say of a type, field by field; nil: they are no form of it.
func plainRead(kind int, b []byte) *plain {
	p, ok := newPlain(kind), true
	if len(b) == 0 || int(b[0]) != kind {
		return nil
	}
	switch b = b[1:]; kind {
	case Counter:
		b, ok = p.readTotals(b)
	case Set:
		b, ok = p.readEntries(b)
	case Flag:
		if b, ok = p.plainCounts(b); ok {
			b, _, ok = p.plainTags(b, "")
		}
	case Register:
		if len(b) < 4 || b[3] > 7 {
			return nil
		}
		p.stamp, p.actor, p.text = int(b[0])+int(b[1])*256+int(b[2])*65536, int(b[3]), string(b[4:])
		ok = p.stamp > 0 || p.actor == 0 && p.text == ""
		b = nil
	}
	if !ok || len(b) > 0 {
		return nil
	}
	return p
}

func (p *plain) readTotals(b []byte) ([]byte, bool) {
	well := true
	b, ok := plainRow(b, 6, func(actor int, part []byte) {
		well = well && !bytes.Equal(part, make([]byte, 6))
		p.up[actor] = int(part[0]) + int(part[1])*256 + int(part[2])*65536
		p.down[actor] = int(part[3]) + int(part[4])*256 + int(part[5])*65536
	})
	return b, ok && well
}

func (p *plain) readEntries(b []byte) ([]byte, bool) {
	b, ok := p.plainCounts(b)
	if !ok || len(b) == 0 {
		return nil, false
	}
	n := int(b[0])
	b = b[1:]
	ahead := ""
	for range n {
		if len(b) == 0 || b[0] < 1 || b[0] > 8 || len(b) < 1+int(b[0]) {
			return nil, false
		}
		element := string(b[1 : 1+b[0]])
		if element <= ahead {
			return nil, false
		}
		ahead = element
		var count int
		if b, count, ok = p.plainTags(b[1+len(element):], element); !ok || count == 0 {
			return nil, false
		}
	}
	return b, true
}
