package coord

import (
	"bytes"
	"slices"

	"rookery/api"
)

// nobody stands in: no node has this number.
const nobody = -1

// call is an open call: a Put, which has a write, or a Get, which has a key.
type call struct {
	me, gap, number int
	put             bool
	write           api.Write
	key             string
	seats           []seat // of the preferred nodes, in their order
	standins        []int  // that were not written to yet
	quorum          int
	owners          int
	answered, ended bool
	stage           func() api.Acts // what the timer does next
}

// seat is a preferred node's place in a call; silent, until there is an owner's answer.
type seat struct {
	node    int
	standin int // who was asked in its place
	owner   bool
	answer
}

// answer is what came for a seat; of a Put it says nothing.
type answer struct {
	found  bool // by a stand-in: a list of what it keeps, which comes without a set
	writes []api.Write
	set    []api.Span
}

func newCall(c *Coord, number int, prefer, standins []int, quorum int, sloppy bool) *call {
	k := &call{me: c.me, gap: c.gap, number: number, standins: slices.Clone(standins), quorum: quorum}
	for _, n := range prefer {
		k.seats = append(k.seats, seat{node: n, standin: nobody})
	}
	k.stage = k.giveUp
	if sloppy {
		k.stage = k.askStandins
	}
	return k
}

// giveUp is the stage behind which nobody is waited for any more.
func (k *call) giveUp() api.Acts {
	k.ended = true
	if k.answered {
		return api.Acts{}
	}
	return api.Acts{Done: []api.Done{{Call: k.number, Err: api.ErrQuorum}}}
}

// askStandins is a sloppy call's first stage: others are asked in place of those that are silent.
func (k *call) askStandins() api.Acts {
	k.stage = k.giveUp
	acts := api.Acts{Arm: k.timer()}
	for i := range k.seats {
		s := &k.seats[i]
		if s.owner || len(k.standins) == 0 {
			continue
		}
		s.standin, k.standins = k.standins[0], k.standins[1:]
		m := k.message(api.MsgSeek, s.standin)
		if k.put {
			m.Kind = api.MsgKeep
		}
		m.Owner = s.node
		acts.Send = append(acts.Send, m)
	}
	return acts
}

// requests are what the other preferred nodes are sent first.
func (k *call) requests() []api.Msg {
	kind := api.MsgAsk
	if k.put {
		kind = api.MsgStore
	}
	var out []api.Msg
	for _, s := range k.seats {
		if s.node != k.me {
			out = append(out, k.message(kind, s.node))
		}
	}
	return out
}

// message carries what the call is about.
func (k *call) message(kind, to int) api.Msg {
	m := api.Msg{Kind: kind, From: k.me, To: to, Call: k.number, Key: k.key}
	if k.put {
		m.Writes = []api.Write{copyOf(k.write)}
	}
	return m
}

func (k *call) timer() []api.Timer {
	return []api.Timer{{Due: api.CallDelay, Kind: api.TimeCall, Call: k.number}}
}

// silentSeat tells the seat of a preferred node for whom nobody has answered; nil, if there is none.
func (k *call) silentSeat(node int) *seat {
	for i := range k.seats {
		if s := &k.seats[i]; s.node == node && !s.owner {
			return s
		}
	}
	return nil
}

// seatFor tells the silent seat that m is an answer for; nil, if m doesn't fit.
func (k *call) seatFor(m api.Msg) *seat {
	owner := m.Owner
	if m.Kind == api.MsgTell {
		owner = m.From
	}
	s := k.silentSeat(owner)
	if s == nil || !k.fits(m, s) {
		return nil
	}
	return s
}

func (k *call) fits(m api.Msg, s *seat) bool {
	stoodIn := s.standin != nobody && m.From == s.standin
	switch m.Kind {
	case api.MsgStored:
		return k.put && (m.From == s.node || stoodIn)
	case api.MsgTell:
		return !k.put && m.Key == k.key
	}
	return !k.put && m.Key == k.key && stoodIn
}

// read takes out of a message that fits what the call has to keep of it.
func (k *call) read(m api.Msg) answer {
	if k.put {
		return answer{}
	}
	a := answer{found: m.Kind == api.MsgFound, writes: ofKey(m.Writes, k.key)}
	if !a.found {
		a.set = slices.Clone(m.Set)
	}
	return a
}

// hear makes the seat's node an owner: the one that completes the quorum brings the call's answer.
func (k *call) hear(s *seat, a answer) api.Acts {
	s.owner, s.answer = true, a
	k.owners++
	var acts api.Acts
	if k.owners == k.quorum {
		k.answered = true
		acts = k.result()
	}
	k.ended = k.owners == len(k.seats) || k.answered && !k.put
	return acts
}

func (k *call) result() api.Acts {
	if k.put {
		return api.Acts{Done: []api.Done{{Call: k.number, Writes: []api.Write{copyOf(k.write)}}}}
	}
	return k.gathered()
}

func copyOf(w api.Write) api.Write {
	w.Value, w.Ctx = bytes.Clone(w.Value), slices.Clone(w.Ctx)
	return w
}

// ofKey tells the writes of that key, in new memory.
func ofKey(list []api.Write, key string) []api.Write {
	var out []api.Write
	for _, w := range list {
		if w.Key == key {
			out = append(out, copyOf(w))
		}
	}
	return out
}
