package group

import (
	"garrison/api"
	"garrison/node"
)

// Node: a node of a number.
func (g *Group) Node(num int) (api.Node, api.Errno) {
	if g == nil {
		return api.Node{}, api.ErrNil
	}
	return node.Read(g.txn, g.geo, num)
}

// Set: a node of a number is to be another one.
func (g *Group) Set(num int, n api.Node) api.Errno {
	if g == nil {
		return api.ErrNil
	}
	return node.Write(g.txn, g.geo, num, n)
}

// Make: a node that was free, of a kind, with one link, of the next generation: its number.
func (g *Group) Make(k api.Kind) (int, api.Errno) {
	if g == nil {
		return 0, api.ErrNil
	}
	if !beginsEmpty(k) {
		return 0, api.ErrRange
	}
	return g.add(api.Node{Kind: k, Links: 1})
}

// MakeLink: a symbolic link of a length, whose bytes are still to be written to that block: its number.
func (g *Group) MakeLink(size, block int) (int, api.Errno) {
	if g == nil {
		return 0, api.ErrNil
	}
	if size < 1 || size > api.MaxTarget {
		return 0, api.ErrRange
	}
	if e := g.reach(block); e != api.OK {
		return 0, e
	}
	n := api.Node{Kind: api.KLink, Links: 1, Size: uint32(size)}
	n.Direct[0] = uint16(block)
	return g.add(n)
}

// Wipe: a node is free; its blocks have to be given ahead. Its generation stays, so that the next one in its place has another.
func (g *Group) Wipe(num int) api.Errno {
	n, e := g.Node(num)
	if e != api.OK {
		return e
	}
	return g.Set(num, api.Node{Gen: n.Gen})
}

// Ino: which node is meant by a number, as it is now.
func (g *Group) Ino(num int) (api.Ino, api.Errno) {
	n, e := g.Node(num)
	if e != api.OK {
		return api.Ino{}, e
	}
	if n.Kind == api.KFree {
		return api.Ino{}, api.ErrNone
	}
	return api.Ino{Lab: uint8(g.lab), Num: uint16(num), Gen: n.Gen}, api.OK
}

// beginsEmpty: may a node of a kind be made without bytes? A link may not: it has a target from its beginning on.
func beginsEmpty(k api.Kind) bool {
	switch k {
	case api.KFile, api.KDir, api.KMulti, api.KFifo:
		return true
	}
	return false
}

// add: the first node that is free is to be n, of the next generation: its number. A table that isn't right gets no more nodes.
func (g *Group) add(n api.Node) (int, api.Errno) {
	for num := 1; num <= g.geo.Nodes; num++ {
		old, e := g.Node(num)
		if e != api.OK {
			return 0, e
		}
		if old.Kind != api.KFree {
			continue
		}
		n.Gen = old.Gen + 1 // it may wrap round
		if e := g.Set(num, n); e != api.OK {
			return 0, e
		}
		return num, api.OK
	}
	return 0, api.ErrSpace
}

// countNodes: how many aren't free.
func (g *Group) countNodes() (int, api.Errno) {
	many := 0
	for i := range g.geo.Nodes {
		n, e := g.Node(i + 1)
		if e != api.OK {
			return 0, e
		}
		if n.Kind != api.KFree {
			many++
		}
	}
	return many, api.OK
}
