package cluster

import "rookery/api"

// kind is what one kind of step asks for ahead of all else, and what it does then.
type kind struct {
	lacks func(c *Cluster, s api.Step) api.Errno
	do    func(c *Cluster, s api.Step) api.Answer
}

// kinds tells all kinds of steps.
func kinds() map[int]kind {
	return map[int]kind{
		api.StepPut:     {(*Cluster).lacksUp, (*Cluster).put},
		api.StepGet:     {(*Cluster).lacksUp, (*Cluster).get},
		api.StepDeliver: {(*Cluster).lacksNothing, (*Cluster).deliver},
		api.StepDrop:    {(*Cluster).lacksNothing, (*Cluster).drop},
		api.StepDouble:  {(*Cluster).lacksNothing, (*Cluster).double},
		api.StepMove:    {(*Cluster).lacksNothing, (*Cluster).move},
		api.StepFire:    {(*Cluster).lacksUp, (*Cluster).fire},
		api.StepCrash:   {(*Cluster).lacksUp, (*Cluster).crash},
		api.StepArm:     {(*Cluster).lacksNode, (*Cluster).arm},
		api.StepRestart: {(*Cluster).lacksNode, (*Cluster).restart},
		api.StepSee:     {(*Cluster).lacksNode, (*Cluster).see},
		api.StepBag:     {(*Cluster).lacksNothing, (*Cluster).letters},
		api.StepImage:   {(*Cluster).lacksNode, (*Cluster).image},
		api.StepWrite:   {(*Cluster).lacksClient, (*Cluster).write},
		api.StepRead:    {(*Cluster).lacksClient, (*Cluster).read},
		api.StepClient:  {(*Cluster).lacksClient, (*Cluster).client},
	}
}

func (c *Cluster) lacksNothing(api.Step) api.Errno { return api.OK }

func (c *Cluster) lacksNode(s api.Step) api.Errno {
	if !c.has(s.Node) {
		return api.ErrNode
	}
	return api.OK
}

func (c *Cluster) lacksUp(s api.Step) api.Errno { return c.reach(s.Node) }

func (c *Cluster) lacksClient(s api.Step) api.Errno {
	if s.Client < 0 || s.Client >= len(c.clients) {
		return api.ErrClient
	}
	return api.OK
}

func (c *Cluster) put(s api.Step) api.Answer { return c.beginPut(s, nil) }

func (c *Cluster) get(s api.Step) api.Answer { return c.beginGet(s, nil) }

func (c *Cluster) deliver(s api.Step) api.Answer {
	l, err := c.bag.Deliver(s.I)
	if err != api.OK {
		return api.Answer{Err: err}
	}
	if err := c.reach(l.To); err != api.OK {
		return api.Answer{Err: err}
	}
	acts, err := c.places[l.To].node.Handle(l.Data)
	return c.take(l.To, acts, err)
}

func (c *Cluster) drop(s api.Step) api.Answer { return api.Answer{Err: c.bag.Drop(s.I)} }

func (c *Cluster) double(s api.Step) api.Answer { return api.Answer{Err: c.bag.Double(s.I)} }

func (c *Cluster) move(s api.Step) api.Answer { return api.Answer{Err: c.bag.Move(s.I, s.J)} }

func (c *Cluster) fire(s api.Step) api.Answer {
	acts, err := c.places[s.Node].node.Fire(s.I)
	return c.take(s.Node, acts, err)
}

func (c *Cluster) crash(s api.Step) api.Answer {
	c.places[s.Node].disk.Off()
	return api.Answer{Done: c.goDown(s.Node)}
}

func (c *Cluster) arm(s api.Step) api.Answer {
	p := c.places[s.Node]
	if p.isUp() {
		p.disk.Arm(s.I, s.J)
	} else {
		p.arm = &fuse{after: s.I, torn: s.J}
	}
	return api.Answer{}
}

func (c *Cluster) restart(s api.Step) api.Answer {
	p := c.places[s.Node]
	if p.isUp() {
		return api.Answer{Err: api.ErrStep}
	}
	p.disk.On()
	if p.arm != nil {
		p.disk.Arm(p.arm.after, p.arm.torn)
		p.arm = nil
	}
	return api.Answer{Err: p.open(c.config, s.Node)}
}

func (c *Cluster) see(s api.Step) api.Answer {
	p := c.places[s.Node]
	if !p.isUp() {
		return api.Answer{}
	}
	return api.Answer{Sight: p.node.See()}
}

func (c *Cluster) letters(api.Step) api.Answer {
	var all []api.Letter
	for i := range c.bag.Len() {
		l, _ := c.bag.At(i) // there are so many
		all = append(all, l)
	}
	return api.Answer{Bag: all}
}

func (c *Cluster) image(s api.Step) api.Answer {
	return api.Answer{Image: c.places[s.Node].disk.Image()}
}

func (c *Cluster) write(s api.Step) api.Answer { return c.lead(s, (*Cluster).beginPut) }

func (c *Cluster) read(s api.Step) api.Answer { return c.lead(s, (*Cluster).beginGet) }

func (c *Cluster) client(s api.Step) api.Answer {
	by := c.clients[s.Client]
	at, err := by.Next(s.Key)
	if err != api.OK {
		return api.Answer{Err: err}
	}
	return api.Answer{Heads: by.Heads(s.Key), Node: at}
}

func (c *Cluster) has(node int) bool { return node >= 0 && node < len(c.places) }

// reach tells why a node can't be handed anything.
func (c *Cluster) reach(node int) api.Errno {
	if !c.has(node) {
		return api.ErrNode
	}
	if !c.places[node].isUp() {
		return api.ErrDown
	}
	return api.OK
}
