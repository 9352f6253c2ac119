package types

import "rookery/api"

// counter: what each actor has added, and what it has taken off.
type counter struct {
	other
	up, down row
}

// form tells a row in which up and down stand as one number, up in its lower bytes.
func (c counter) form() []byte {
	both := c.up
	for actor, n := range c.down {
		both[actor] |= n << (8 * wideBytes)
	}
	return appendRow([]byte{Counter}, both, 2*wideBytes)
}

func (c counter) read(r *reader) body {
	r.next(1)
	for actor, n := range r.row(2 * wideBytes) {
		c.up[actor], c.down[actor] = n&maxWide, n>>(8*wideBytes)
	}
	return c
}

func (c counter) right() bool { return true }

func (c counter) merged(o counter) counter {
	return counter{up: c.up.greater(o.up), down: c.down.greater(o.down)}
}

func (c counter) add(actor, by int) (body, api.Errno) {
	if !isActor(actor) {
		return nil, api.ErrActor
	}
	if by > maxWide || by < -maxWide {
		return nil, api.ErrCount
	}
	c.up[actor] += max(by, 0)
	c.down[actor] -= min(by, 0)
	if c.up[actor] > maxWide || c.down[actor] > maxWide {
		return nil, api.ErrCount
	}
	return c, api.OK
}

func (c counter) sum() int {
	sum := 0
	for actor := range actors {
		sum += c.up[actor] - c.down[actor]
	}
	return sum
}
