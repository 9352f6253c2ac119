package session

import (
	"cmp"

	"rookery/api"
	"rookery/dotset"
)

// sight is what was seen last of a key: its zero value, where nothing was.
type sight struct {
	heads map[api.Dot]struct{}
	call  int // whose answer was read last
}

// sightOf is what a read has shown.
func sightOf(call int, writes []api.Write) sight {
	v := sight{heads: make(map[api.Dot]struct{}, len(writes)), call: call}
	for _, w := range writes {
		v.heads[w.Dot] = struct{}{}
	}
	return v
}

// behind is what has been seen once a write of the client's own is there, too. The call stays: no read has shown that write.
func (v sight) behind(w api.Write) sight {
	next := sight{heads: map[api.Dot]struct{}{w.Dot: {}}, call: v.call}
	for d := range v.heads {
		if !dotset.Has(w.Ctx, d) {
			next.heads[d] = struct{}{}
		}
	}
	return next
}

// within tells whether a token has all that was seen last; what was seen ahead of that is covered by it.
func (v sight) within(token []api.Span) bool {
	for d := range v.heads {
		if !dotset.Has(token, d) {
			return false
		}
	}
	return true
}

func compareDots(a, b api.Dot) int {
	return cmp.Or(cmp.Compare(a.Node, b.Node), cmp.Compare(a.Count, b.Count))
}
