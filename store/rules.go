package store

import (
	"rookery/api"
	"rookery/right"
)

// rules is what a config asks of what its node stores.
type rules struct{ right.Node }

func (r rules) isNode(node int) bool { return node >= 0 && node < r.Config.Nodes }

func (r rules) isSet(s []api.Span) bool { return right.Set(r.Config, s) }

func (r rules) isRight(w api.Write) bool { return right.Write(r.Config, w) }
