package file

import (
	"garrison/api"
	"garrison/group"
	"garrison/node"
)

// Cut: a file's bytes from a place on are left out; its blocks behind are given.
func Cut(g *group.Group, num, size int) api.Errno {
	b, e := open(g, num)
	if e != api.OK {
		return e
	}
	if size < 0 || size > b.size() {
		return api.ErrRange
	}
	if size == b.size() { // nothing is put for nothing
		return api.OK
	}
	keep, _ := node.Spread(size)
	if e := b.giveFrom(keep); e != api.OK {
		return e
	}
	if e := b.wipeBehind(size); e != api.OK {
		return e
	}
	b.node.Size = uint32(size)
	return g.Set(num, b.node)
}

// Remove: a node's blocks are given, and it is free. No pointer is put: they go with the node.
func Remove(g *group.Group, num int) api.Errno {
	b, e := open(g, num)
	if e != api.OK {
		return e
	}
	n := b.node
	if n.Kind == api.KLink { // whatever else it points to isn't its own
		n = api.Node{Direct: [api.Directs]uint16{n.Direct[0]}}
	}
	data, pointers, e := Blocks(g, n)
	if e != api.OK {
		return e
	}
	for _, p := range append(data, pointers...) {
		if e := g.Give(p); e != api.OK {
			return e
		}
	}
	return g.Wipe(num)
}
