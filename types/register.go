package types

import (
	"cmp"

	"rookery/api"
)

const maxText = 59 // bytes

// register: what was written last, by whom, behind how many others.
type register struct {
	other
	stamp, actor int
	words        string
}

func (g register) form() []byte {
	b := appendNumber([]byte{Register}, g.stamp, wideBytes)
	b = append(b, byte(g.actor))
	return append(b, g.words...)
}

func (g register) read(r *reader) body {
	r.next(1)
	g.stamp = r.number(wideBytes)
	g.actor = r.number(1)
	g.words = string(r.next(maxText))
	return g
}

func (g register) right() bool {
	return isActor(g.actor) && (g.stamp > 0 || g == register{})
}

func (g register) merged(o register) register {
	if cmp.Or(cmp.Compare(g.stamp, o.stamp), cmp.Compare(g.actor, o.actor), cmp.Compare(g.words, o.words)) < 0 {
		return o
	}
	return g
}

func (g register) write(actor int, text []byte) (body, api.Errno) {
	switch {
	case !isActor(actor):
		return nil, api.ErrActor
	case len(text) > maxText:
		return nil, api.ErrLong
	case g.stamp == maxWide:
		return nil, api.ErrCount
	}
	return register{stamp: g.stamp + 1, actor: actor, words: string(text)}, api.OK
}

func (g register) text() []byte { return []byte(g.words) }
