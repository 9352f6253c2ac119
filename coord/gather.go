package coord

import (
	"slices"

	"rookery/api"
	"rookery/sibs"
)

// gathered is what a Get answers, and what it sends to those that have told less.
func (k *call) gathered() api.Acts {
	told, found := k.lists(false), k.lists(true)
	known, out := sibs.Token(told, k.sets(), k.gap)
	token, more := sibs.Token(found, [][]api.Span{known}, k.gap)
	// Of each sort just what its own token has left out goes: what a stand-in's copy of a write lacks is no word on the copy that was told.
	writes := sibs.Gather(slices.Concat(without(told, out), without(found, more))...)
	return api.Acts{
		Send: k.repairs(writes),
		Done: []api.Done{{Call: k.number, Writes: writes, Token: token}},
	}
}

// lists are the owners' writes, by the order of the preferred nodes: those that were told, or those that were found.
func (k *call) lists(found bool) [][]api.Write {
	var out [][]api.Write
	for _, s := range k.seats {
		if s.owner && s.found == found {
			out = append(out, s.writes)
		}
	}
	return out
}

// sets are what the owners that have told know.
func (k *call) sets() [][]api.Span {
	var out [][]api.Span
	for _, s := range k.seats {
		if s.owner && !s.found {
			out = append(out, s.set)
		}
	}
	return out
}

// repairs are the writes of the answer, to each other node that has told, which lacked them.
func (k *call) repairs(writes []api.Write) []api.Msg {
	var out []api.Msg
	for _, s := range k.seats {
		if !s.owner || s.found || s.node == k.me {
			continue
		}
		told := dots(s.writes)
		for _, w := range writes {
			if _, ok := told[w.Dot]; !ok {
				// No call waits for its answer, so it has none.
				out = append(out, api.Msg{Kind: api.MsgStore, From: k.me, To: s.node, Writes: []api.Write{copyOf(w)}})
			}
		}
	}
	return out
}

func dots(list []api.Write) map[api.Dot]struct{} {
	out := make(map[api.Dot]struct{}, len(list))
	for _, w := range list {
		out[w.Dot] = struct{}{}
	}
	return out
}

// without tells the lists without the writes whose dots those in out have.
func without(lists [][]api.Write, out []api.Write) [][]api.Write {
	gone := dots(out)
	var left [][]api.Write
	for _, list := range lists {
		left = append(left, slices.DeleteFunc(slices.Clone(list), func(w api.Write) bool {
			_, ok := gone[w.Dot]
			return ok
		}))
	}
	return left
}
