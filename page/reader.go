package page

import "rookery/api"

// reader: a page, read field by field. At the first wrong field it stops for good: it stays at that place, and whatever it is asked to read further on is 0 or nothing. By the bounds of its counts no content is longer than a page, so it needn't look for the page's end.
type reader struct {
	page  []byte
	at    int
	wrong bool
}

// head: what a page has ahead of its clocks or writes, and how many of them there are.
type head struct {
	kind, gen, owner, many int
	key                    []byte // the page's own bytes
}

// set: a set of dots in an array: a page is looked at without new memory for what nobody asked for.
type set struct {
	spans [api.MaxNodes]api.Span
	many  int
}

// write: a write without its key.
type write struct {
	dot   api.Dot
	dead  bool
	value []byte // the page's own bytes
	ctx   set
}

// list tells the set in new memory.
func (s set) list() []api.Span { return append([]api.Span(nil), s.spans[:s.many]...) }

// number reads a number of so many bytes that may not be less, nor more.
func (r *reader) number(bytes, least, most int) int {
	if r.wrong {
		return 0
	}
	n := int(r.peek(bytes))
	if !within(n, least, most) {
		r.wrong = true
		return 0
	}
	r.at += bytes
	return n
}

// peek tells the number of so many bytes at which the reader stands, and stays there.
func (r *reader) peek(bytes int) uint64 {
	var n uint64
	for i, c := range r.page[r.at : r.at+bytes] {
		n |= uint64(c) << (8 * i)
	}
	return n
}

// text reads a length, and so many bytes: the page's own, ending where they end, so that nothing is appended into the page.
func (r *reader) text(least, most int) []byte {
	length := r.number(1, least, most)
	begin := r.at
	r.at += length
	return r.page[begin:r.at:r.at]
}

// span reads a span of a node that may not be less, and, of a write's context, has not the write's own dot.
func (r *reader) span(leastNode int, own api.Dot) api.Span {
	x := api.Span{Node: r.number(1, leastNode, api.MaxNodes-1)}
	x.Base = r.number(countBytes, 0, api.MaxCount)
	if r.wrong {
		return api.Span{}
	}
	x.Bits = r.peek(bitsBytes)
	// its node and its base are right: if it is no such set now, its bits are wrong
	if !isContext([]api.Span{x}, own) {
		r.wrong = true
		return api.Span{}
	}
	r.at += bitsBytes
	return x
}

// set reads a set of dots; of a clock's there is no own dot, and the zero one is in no set.
func (r *reader) set(own api.Dot) set {
	s := set{many: r.number(1, 0, api.MaxNodes)}
	leastNode := 0
	for i := range s.many {
		s.spans[i] = r.span(leastNode, own)
		leastNode = s.spans[i].Node + 1
	}
	return s
}

// clocks reads so many clocks, and tells the last one's range and set.
func (r *reader) clocks(many int) (int, set) {
	var last int
	var s set
	leastRange := 0
	for range many {
		last = r.number(1, leastRange, api.MaxRanges-1)
		s = r.set(api.Dot{})
		leastRange = last + 1
	}
	return last, s
}

// writes reads so many writes, and tells the last of them.
func (r *reader) writes(many int) write {
	var w write
	for range many {
		w = r.write(w.dot)
	}
	return w
}

// write reads a write behind the one with the dot ahead.
func (r *reader) write(ahead api.Dot) write {
	var w write
	w.dot.Node = r.number(1, ahead.Node, api.MaxNodes-1)
	w.dot.Count = r.number(countBytes, leastCount(ahead, w.dot.Node), api.MaxCount)
	w.dead = r.number(1, 0, 1) == 1
	w.value = r.text(0, mostValue(w.dead))
	w.ctx = r.set(w.dot)
	return w
}

func (r *reader) head() head {
	h := head{kind: r.number(1, KindClocks, KindHint)}
	switch h.kind {
	case KindClocks:
		h.gen = r.number(genBytes, 0, maxGen)
		h.many = r.number(1, 0, api.MaxRanges)
	case KindKey:
		h.key = r.text(1, api.MaxKey)
		h.many = r.number(1, 1, api.MaxSiblings)
	case KindHint:
		h.owner = r.number(1, 0, api.MaxNodes-1)
		h.key = r.text(1, api.MaxKey)
		h.many = 1
	}
	return h
}

// zeros reads what is behind the end of the content.
func (r *reader) zeros() {
	for !r.wrong && r.at < len(r.page) {
		r.number(1, 0, 0)
	}
}
