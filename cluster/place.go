package cluster

import (
	"rookery/api"
	"rookery/disk"
	"rookery/node"
	"rookery/pagefile"
)

// place is where a node runs. The disk outlasts the nodes that are opened on it one behind the other.
type place struct {
	disk *disk.Disk
	node *node.Node // nil while it is down: then the disk is off
	arm  *fuse      // what the next restart arms the disk with; nil: nothing
}

// fuse is where a disk's power fails: behind so many raw writes, so many bytes into the next one.
type fuse struct{ after, torn int }

// newPlace starts a node of a right config on a disk of zeros, which takes every such node.
func newPlace(c api.Config, me int) *place {
	d, _ := disk.New(pagefile.Sectors)
	p := &place{disk: d}
	_ = p.open(c, me)
	return p
}

func (p *place) isUp() bool { return p.node != nil }

// open starts a node on what the disk has; one that can't be started leaves the disk off.
func (p *place) open(c api.Config, me int) api.Errno {
	n, err := node.Open(c, me, p.disk)
	if err != api.OK {
		p.disk.Off()
		return err
	}
	p.node = n
	return api.OK
}
