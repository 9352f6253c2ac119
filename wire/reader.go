package wire

import (
	"math"

	"rookery/api"
	"rookery/dotset"
)

// How a number stands in bytes: a group of its bits in each, and group more in all but the last.
const (
	groupBits = 7
	group     = 1 << groupBits
	lastGroup = 64 / groupBits // the byte, from 0 on, behind which no number goes on: it has one bit of it
)

// reader: bytes, read from the left. Where they go wrong it gives up: it panics with the place.
type reader struct {
	data []byte
	at   int
}

// wrong: the place at which a reader gave up.
type wrong int

// need gives up at a place, unless all is well there.
func need(well bool, place int) {
	if !well {
		panic(wrong(place))
	}
}

// take reads the next bytes, in the memory of the data.
func (r *reader) take(n int) []byte {
	need(n <= len(r.data)-r.at, len(r.data))
	r.at += n
	return r.data[r.at-n : r.at]
}

// number reads a number to its end, and tells whether it stands there in its one form.
func (r *reader) number() (uint64, bool) {
	var n uint64
	for i := 0; ; i++ {
		c := r.take(1)[0]
		n |= uint64(c%group) << (groupBits * i)
		if i == lastGroup {
			return n, c == 1
		}
		if c < group {
			return n, c != 0 || i == 0
		}
	}
}

// bounded reads a number that may not be less, nor more.
func (r *reader) bounded(least, most int) int {
	begin := r.at
	n, ok := r.number()
	need(ok && n >= uint64(least) && n <= uint64(most), begin)
	return int(n)
}

func (r *reader) node() int { return r.bounded(0, api.MaxNodes-1) }

func (r *reader) key() string { return string(r.take(r.bounded(1, api.MaxKey))) }

func (r *reader) value() []byte {
	return append([]byte(nil), r.take(r.bounded(0, api.MaxValue))...)
}

func (r *reader) dot() api.Dot {
	node := r.node()
	return api.Dot{Node: node, Count: r.bounded(1, api.MaxCount)}
}

func (r *reader) set() []api.Span { return r.spans(math.MaxUint64) }

// bases reads a set without any bits.
func (r *reader) bases() []api.Span { return r.spans(0) }

func (r *reader) spans(mostBits uint64) []api.Span {
	var s []api.Span
	leastNode := 0
	for range r.bounded(0, api.MaxNodes) {
		x := r.span(leastNode, mostBits)
		s = append(s, x)
		leastNode = x.Node + 1
	}
	return s
}

func (r *reader) span(leastNode int, mostBits uint64) api.Span {
	x := api.Span{Node: r.bounded(leastNode, api.MaxNodes-1)}
	x.Base = r.bounded(0, api.MaxCount)
	begin := r.at
	bits, ok := r.number()
	x.Bits = bits
	// its node and its base are right: if it is no set now, its bits are wrong
	need(ok && bits <= mostBits && isSet([]api.Span{x}), begin)
	return x
}

// loneWrite reads a write that stands in no list.
func (r *reader) loneWrite() api.Write { return r.write(api.Dot{}, "") }

// write reads a write whose dot rises over the one ahead, and that is of the key, if it is not empty.
func (r *reader) write(ahead api.Dot, key string) api.Write {
	begin := r.at
	w := api.Write{Dot: r.dot()}
	need(rises(ahead, w.Dot), begin)
	w.Key = r.key()
	need(key == "" || w.Key == key, begin)
	w.Dead = r.bounded(0, 1) == 1
	if !w.Dead {
		w.Value = r.value()
	}
	begin = r.at
	w.Ctx = r.set()
	need(!dotset.Has(w.Ctx, w.Dot), begin)
	return w
}

func (r *reader) writes(most int, key string) []api.Write {
	var list []api.Write
	var ahead api.Dot
	for range r.bounded(0, most) {
		w := r.write(ahead, key)
		list = append(list, w)
		ahead = w.Dot
	}
	return list
}

// message reads a message that all of the bytes are.
func (r *reader) message() api.Msg {
	m := api.Msg{Kind: r.bounded(api.MsgStore, api.MsgTook)}
	m.From = r.node()
	m.To = r.node()
	has := fieldsOf(m.Kind)
	if has.name(hasCall) {
		m.Call = r.bounded(0, api.MaxCalls)
	}
	if has.name(hasOwner) {
		m.Owner = r.node()
	}
	if has.name(hasRange) {
		m.Range = r.bounded(0, api.MaxRanges-1)
	}
	if has.name(hasKey) {
		m.Key = r.key()
	}
	if has.name(hasDot) {
		m.Dot = r.dot()
	}
	if has.name(hasSet) {
		m.Set = r.setOf(m.Kind)
	}
	if has.name(hasOne) {
		m.Writes = []api.Write{r.loneWrite()}
	}
	if has.name(hasWrites) {
		m.Writes = r.writes(mostWrites(m.Kind), m.Key)
	}
	need(r.at == len(r.data), r.at)
	return m
}

func (r *reader) setOf(kind int) []api.Span {
	if kind == api.MsgTell {
		return r.bases()
	}
	return r.set()
}
