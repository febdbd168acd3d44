package node

import (
	"garrison/api"
	"garrison/conf"
	"garrison/wal"
)

// perBlock: how many nodes stand in a block.
const perBlock = api.BlockSize / api.NodeSize

// Place: in which block of a group a node of a number (from 1 on) stands, and where in it; false: there is no such node.
func Place(g conf.Geo, num int) (block, at int, ok bool) {
	if num < 1 || num > g.Nodes {
		return 0, 0, false
	}
	i := num - 1
	return g.Base + g.Bitmap + i/perBlock, i % perBlock * api.NodeSize, true
}

// Read: a node of a group.
func Read(t *wal.Txn, g conf.Geo, num int) (api.Node, api.Errno) {
	block, at, ok := Place(g, num)
	if !ok {
		return api.Node{}, api.ErrRange
	}
	b, e := t.Get(block)
	if e != api.OK {
		return api.Node{}, e
	}
	var x [api.NodeSize]byte
	copy(x[:], b[at:])
	return Decode(x)
}

// Write: a node of a group is to be so. The block's other node stays as it is, be it right or not.
func Write(t *wal.Txn, g conf.Geo, num int, n api.Node) api.Errno {
	block, at, ok := Place(g, num)
	if !ok {
		return api.ErrRange
	}
	if e := Check(n); e != api.OK {
		return e
	}
	b, e := t.Get(block)
	if e != api.OK {
		return e
	}
	x := Encode(n)
	copy(b[at:], x[:])
	return t.Put(block, b)
}
