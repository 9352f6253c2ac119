package node

import (
	"slices"

	"rookery/api"
	"rookery/dotset"
	"rookery/right"
)

// handler takes a message to the node, from another one.
type handler func(n *Node, m api.Msg) (api.Acts, api.Errno)

// handlers tells who takes which kind of message.
func handlers() [api.MsgTook + 1]handler {
	return [...]handler{
		api.MsgStore:  (*Node).store,
		api.MsgStored: (*Node).hear,
		api.MsgKeep:   (*Node).keep,
		api.MsgAsk:    (*Node).tell,
		api.MsgTell:   (*Node).hear,
		api.MsgSeek:   (*Node).seek,
		api.MsgFound:  (*Node).hear,
		api.MsgClock:  (*Node).clock,
		api.MsgShip:   (*Node).ship,
		api.MsgBack:   (*Node).back,
		api.MsgTook:   (*Node).took,
	}
}

// store takes a write that the node is preferred for.
func (n *Node) store(m api.Msg) (api.Acts, api.Errno) {
	w := m.Writes[0]
	if !right.Write(n.config, w) || !n.minds(w.Key) {
		return api.Acts{}, api.ErrMsg
	}
	if _, err := n.Merge(w); err != api.OK {
		return api.Acts{}, err
	}
	return n.reply(m, api.Msg{Kind: api.MsgStored, Owner: n.me}), api.OK
}

// tell tells the siblings of a key, and what is known of its range.
func (n *Node) tell(m api.Msg) (api.Acts, api.Errno) {
	if !n.minds(m.Key) {
		return api.Acts{}, api.ErrMsg
	}
	known := dotset.Bases(n.Clock(n.ring.Range(m.Key)))
	return n.reply(m, api.Msg{Kind: api.MsgTell, Key: m.Key, Set: known, Writes: n.Read(m.Key)}), api.OK
}

// hear takes an answer for one of the node's calls. Of what its kind does not name it has nothing, which is never wrong.
func (n *Node) hear(m api.Msg) (api.Acts, api.Errno) {
	wrong := func(w api.Write) bool { return !right.Write(n.config, w) }
	if m.Owner >= n.config.Nodes || !right.Set(n.config, m.Set) || slices.ContainsFunc(m.Writes, wrong) {
		return api.Acts{}, api.ErrMsg
	}
	return n.perform(n.coord.On(m))
}

func (n *Node) keep(m api.Msg) (api.Acts, api.Errno)  { return n.hands.Keep(m) }
func (n *Node) seek(m api.Msg) (api.Acts, api.Errno)  { return n.hands.Seek(m) }
func (n *Node) back(m api.Msg) (api.Acts, api.Errno)  { return n.hands.Back(m) }
func (n *Node) took(m api.Msg) (api.Acts, api.Errno)  { return n.hands.Took(m) }
func (n *Node) clock(m api.Msg) (api.Acts, api.Errno) { return n.repair.Clock(m) }
func (n *Node) ship(m api.Msg) (api.Acts, api.Errno)  { return n.repair.Ship(m) }

// reply is the act of answering a message's sender, for the same call.
func (n *Node) reply(to, with api.Msg) api.Acts {
	with.From, with.To, with.Call = n.me, to.From, to.Call
	return api.Acts{Send: []api.Msg{with}}
}
