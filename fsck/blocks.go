package fsck

import (
	"slices"

	"garrison/api"
	"garrison/bits"
	"garrison/file"
	"garrison/node"
)

// checkBlocks: each node has the blocks that its length takes, where it takes them, and shares none.
func (l *look) checkBlocks() {
	for num, n := range l.nodes {
		if e := l.blocksOf(num, n); e != api.OK {
			l.fault(num, e)
			l.torn[num] = true
		}
	}
}

// blocksOf: those of a node. The first fault is enough: on a disk of noise there may be as many as there are ways to blocks, of each node.
func (l *look) blocksOf(num int, n api.Node) api.Errno {
	data, pointers, e := file.Blocks(l.group, n)
	if e != api.OK {
		return e
	}
	for _, b := range slices.Concat(data, pointers) {
		if e := l.own(num, int(b)); e != api.OK {
			return e
		}
	}
	return l.fits(n, data, pointers)
}

// own: a node has a block, alone.
func (l *look) own(num, block int) api.Errno {
	if block >= len(l.owners) {
		return api.ErrRange
	}
	if l.owners[block] > 0 {
		return api.ErrTwice
	}
	l.owners[block] = num
	return api.OK
}

// fits: are these blocks, all that a node has, just those of its length?
func (l *look) fits(n api.Node, data, pointers []uint16) api.Errno {
	many, between := node.Spread(int(n.Size))
	if len(data) != many || len(pointers) != between {
		return api.ErrForm
	}
	// As many as it takes may stand behind a gap all the same.
	for i, b := range data {
		at, e := file.Block(l.group, n, i)
		if e != api.OK {
			return e
		}
		if at != b {
			return api.ErrForm
		}
	}
	return l.endsInNoughts(int(n.Size), data)
}

// endsInNoughts: of the blocks of so many bytes.
func (l *look) endsInNoughts(size int, data []uint16) api.Errno {
	end := size % api.BlockSize
	if end == 0 { // the last block, if there is one, is full
		return api.OK
	}
	b, e := l.group.Get(data[len(data)-1])
	if e != api.OK {
		return e
	}
	for _, x := range b[end:] {
		if x != 0 {
			return api.ErrForm
		}
	}
	return api.OK
}

// checkTaken: the bits of the blocks that nodes have are set, and no others, not even one that is no block's.
func (l *look) checkTaken() {
	all := l.geo.Bitmap * api.BlockSize * 8
	m, e := bits.New(l.txn, l.geo.Base, all)
	if e != api.OK {
		l.fault(0, e)
		return
	}
	list, e := m.List()
	if e != api.OK {
		l.fault(0, e)
		return
	}
	taken := make([]bool, all+1)
	for _, i := range list {
		block := i + 1
		taken[block] = true
		if block >= len(l.owners) || l.owners[block] == 0 {
			l.fault(0, api.ErrSpace)
		}
	}
	for block, num := range l.owners {
		if num > 0 && !taken[block] {
			l.fault(num, api.ErrNone)
		}
	}
}
