package repair

import (
	"cmp"
	"slices"

	"rookery/api"
	"rookery/right"
)

// pair is a range that prefers the node, and another node that it prefers; mark tells when it had its turn.
type pair struct{ mark, rng, peer int }

// ahead tells whether a has its turn ahead of b.
func ahead(a, b pair) bool {
	return cmp.Or(cmp.Compare(a.mark, b.mark), cmp.Compare(a.rng, b.rng), cmp.Compare(a.peer, b.peer)) < 0
}

// pairUp takes in all the node's pairs.
func (r *Repair) pairUp() {
	for rng := range r.config.Ranges {
		for peer := range r.config.Nodes {
			if r.isPair(rng, peer) {
				r.pairs.Push(pair{rng: rng, peer: peer})
			}
		}
	}
}

// markTurn ends the turn of the pair that has it.
func (r *Repair) markTurn() {
	r.times++
	turn, _ := r.pairs.Pop()
	turn.mark = r.times
	r.pairs.Push(turn)
}

// prefers tells whether a range prefers a node; one that is none prefers nobody.
func (r *Repair) prefers(rng, node int) bool {
	first, _ := r.ring.Preferred(rng, r.config.Prefer)
	return slices.Contains(first, node)
}

func (r *Repair) isPair(rng, peer int) bool {
	return peer != r.me && r.prefers(rng, r.me) && r.prefers(rng, peer)
}

// refusal tells what speaks against a message ahead of all else.
func (r *Repair) refusal(m api.Msg, kind int) api.Errno {
	if r.store.Dead() {
		return api.ErrDown
	}
	if m.Kind != kind || m.To != r.me || !r.isPair(m.Range, m.From) || !right.Set(r.config, m.Set) {
		return api.ErrMsg
	}
	return api.OK
}
