package types

import (
	"slices"
	"strings"

	"rookery/api"
)

const maxElement = 8 // bytes

// set: how often each actor has put something, and which elements there are.
type set struct {
	other
	counts  row
	entries []entry // by rising elements
}

// entry: an element, and the puts of it that nobody has taken away.
type entry struct {
	element string
	tags    row
}

func (s set) form() []byte {
	b := appendRow([]byte{Set}, s.counts, countBytes)
	// a byte tells it: Put and Read allow 11, and merging leaves no tag of an actor that the value with its greater count lacks
	b = append(b, byte(len(s.entries)))
	for _, e := range s.entries {
		b = append(b, byte(len(e.element)))
		b = append(b, e.element...)
		b = appendRow(b, e.tags, countBytes)
	}
	return b
}

func (s set) read(r *reader) body {
	r.next(1)
	s.counts = r.row(countBytes)
	for range r.number(1) {
		element := string(r.next(r.number(1)))
		s.entries = append(s.entries, entry{element: element, tags: r.row(countBytes)})
	}
	return s
}

func (s set) right() bool {
	for i, e := range s.entries {
		if !isElement(len(e.element)) || e.tags == (row{}) || !e.tags.within(s.counts) {
			return false
		}
		if i > 0 && s.entries[i-1].element >= e.element {
			return false
		}
	}
	return true
}

func isElement(length int) bool { return length >= 1 && length <= maxElement }

func (s set) merged(o set) set {
	out := set{counts: s.counts.greater(o.counts)}
	mine, theirs := s.entries, o.entries
	for len(mine) > 0 || len(theirs) > 0 {
		var e entry
		var myTags, theirTags row
		e.element = least(mine, theirs)
		myTags, mine = split(mine, e.element)
		theirTags, theirs = split(theirs, e.element)
		e.tags = mergedTags(myTags, s.counts, theirTags, o.counts)
		if e.tags != (row{}) {
			out.entries = append(out.entries, e)
		}
	}
	return out
}

// least tells the least element of two lists, one of which has some.
func least(a, b []entry) string {
	if len(a) == 0 {
		return b[0].element
	}
	if len(b) == 0 {
		return a[0].element
	}
	return min(a[0].element, b[0].element)
}

// split tells an element's tags, if it is the first of a list, and the list behind it.
func split(l []entry, element string) (row, []entry) {
	if len(l) == 0 || l[0].element != element {
		return row{}, l
	}
	return l[0].tags, l[1:]
}

func (s set) put(actor int, element []byte) (body, api.Errno) {
	switch {
	case !isActor(actor):
		return nil, api.ErrActor
	case !isElement(len(element)):
		return nil, api.ErrArg
	case s.counts[actor] == maxCount:
		return nil, api.ErrCount
	}
	e := entry{element: string(element)}
	s.counts, e.tags = oneMore(s.counts, actor)
	ahead, behind := s.around(e.element)
	s.entries = slices.Concat(ahead, []entry{e}, behind)
	if len(s.form()) > api.MaxValue {
		return nil, api.ErrWide
	}
	return s, api.OK
}

func (s set) take(element []byte) (body, api.Errno) {
	ahead, behind := s.around(string(element))
	s.entries = slices.Concat(ahead, behind)
	return s, api.OK
}

// around tells the entries of lesser elements, and those of greater ones.
func (s set) around(element string) ([]entry, []entry) {
	at, found := slices.BinarySearchFunc(s.entries, element, compareElement)
	if found {
		return s.entries[:at], s.entries[at+1:]
	}
	return s.entries[:at], s.entries[at:]
}

func compareElement(e entry, element string) int { return strings.Compare(e.element, element) }

func (s set) elements() [][]byte {
	var out [][]byte
	for _, e := range s.entries {
		out = append(out, []byte(e.element))
	}
	return out
}
