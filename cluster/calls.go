package cluster

import (
	"maps"
	"slices"

	"rookery/api"
	"rookery/session"
	"rookery/wire"
)

// call is a Put or a Get that a node has begun.
type call struct {
	node int
	by   *session.Session // nil: no session's
	put  bool
	key  string
}

// reading is what a Get has seen of a key.
type reading struct {
	key   string
	token []api.Span
}

// lead has a session begin a call, at the node that it calls next.
func (c *Cluster) lead(s api.Step, begin func(c *Cluster, s api.Step, by *session.Session) api.Answer) api.Answer {
	by := c.clients[s.Client]
	at, err := by.Next(s.Key)
	if err != api.OK {
		return api.Answer{Err: err}
	}
	if !c.places[at].isUp() {
		by.Failed(at)
		return api.Answer{Err: api.ErrDown, Node: at}
	}
	// Node, Sloppy and From are not the script's to say here.
	s.Node, s.Sloppy, s.From = at, false, by.Token(s.Key)
	a := begin(c, s, by)
	a.Node = at
	return a
}

// beginPut begins a Put at a node that is up.
func (c *Cluster) beginPut(s api.Step, by *session.Session) api.Answer {
	if c.begun >= api.MaxCalls {
		return api.Answer{Err: api.ErrLong}
	}
	token, err := c.token(s.From, s.Key)
	if err != api.OK {
		return api.Answer{Err: err}
	}
	acts, err := c.places[s.Node].node.Put(c.begun+1, s.Key, s.Dead, s.Value, token, s.Quorum, s.Sloppy)
	return c.begin(call{node: s.Node, by: by, put: true, key: s.Key}, acts, err)
}

// beginGet begins a Get at a node that is up.
func (c *Cluster) beginGet(s api.Step, by *session.Session) api.Answer {
	if c.begun >= api.MaxCalls {
		return api.Answer{Err: api.ErrLong}
	}
	acts, err := c.places[s.Node].node.Get(c.begun+1, s.Key, s.Quorum, s.Sloppy)
	return c.begin(call{node: s.Node, by: by, key: s.Key}, acts, err)
}

// token tells what the Get of that number has seen; nothing for 0, which is no call's.
func (c *Cluster) token(from int, key string) ([]api.Span, api.Errno) {
	if from == 0 {
		return nil, api.OK
	}
	r, ok := c.reads[from]
	if !ok || r.key != key {
		return nil, api.ErrToken
	}
	return r.token, api.OK
}

// begin takes what a node has answered to a call: one that was refused has not begun, and leaves its number to the next.
func (c *Cluster) begin(k call, acts api.Acts, err api.Errno) api.Answer {
	if err != api.OK {
		return c.take(k.node, acts, err)
	}
	c.begun++
	number := c.begun
	c.open[number] = k // ahead of the acts, which may end it
	a := c.take(k.node, acts, err)
	a.Call = number
	return a
}

// take takes what a node has answered.
func (c *Cluster) take(at int, acts api.Acts, err api.Errno) api.Answer {
	if err == api.ErrDown {
		return api.Answer{Err: err, Done: c.goDown(at)}
	}
	if err != api.OK {
		return api.Answer{Err: err}
	}
	c.send(acts.Send)
	var done []api.Done
	for _, d := range acts.Done {
		done = append(done, c.end(d))
	}
	return api.Answer{Done: done}
}

func (c *Cluster) send(messages []api.Msg) {
	for _, m := range messages {
		data, _ := wire.Encode(m)                                      // which takes all that nodes send
		_ = c.bag.Send(api.Letter{From: m.From, To: m.To, Data: data}) // a full bag loses it, and nobody is told
	}
}

// goDown gives up a node whose disk is off, and ends its calls.
func (c *Cluster) goDown(at int) []api.Done {
	c.places[at].node = nil
	var gone []api.Done
	for _, number := range slices.Sorted(maps.Keys(c.open)) {
		if c.open[number].node == at {
			gone = append(gone, c.end(api.Done{Call: number, Err: api.ErrGone}))
		}
	}
	return gone
}

// end ends a call, and tells its Done as whoever asked is told it: a session may refuse what a Get has answered.
func (c *Cluster) end(d api.Done) api.Done {
	k := c.open[d.Call]
	delete(c.open, d.Call)
	if k.by != nil && k.tell(d) == api.ErrStale {
		return api.Done{Call: d.Call, Err: api.ErrStale}
	}
	if d.Err == api.OK && !k.put {
		c.reads[d.Call] = reading{key: k.key, token: slices.Clone(d.Token)}
	}
	return d
}

// tell tells a session how its call has ended.
func (k call) tell(d api.Done) api.Errno {
	switch {
	case d.Err != api.OK:
		k.by.Failed(k.node)
		return api.OK
	case k.put:
		return k.by.Wrote(d.Writes[0])
	}
	return k.by.Got(d.Call, k.key, d.Token, d.Writes)
}
